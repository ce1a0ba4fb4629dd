package simplify

import (
	"sloth/api"
	"sloth/swap"
)

// bindArgument makes an ExprLet of a lambda that is applied.
func (r *round) bindArgument(n *node) *node {
	lam, argument := n.parts[0], n.parts[1]
	return newLet(lam.locals, []*node{argument, lam.parts[0]})
}

// isSmallCall tells whether a spine is a call of a small definition whose copy may be put there.
func (r *round) isSmallCall(n *node) bool {
	head, args := n.spine()
	if head.kind != api.ExprGlobal || r.isFull() {
		return false
	}
	b := r.bodies[head.name]
	return b.isSmall && b.lambdas == args && r.mayStand(head)
}

// mayStand tells whether no type in the copy of a small definition would become too great.
func (r *round) mayStand(global *node) bool {
	if len(global.types) == 0 {
		return true
	}
	sizes := sizesOf(global.types)
	for _, m := range r.measured(global.name).types {
		if m.with(sizes) > api.MaxType {
			return false
		}
	}
	return true
}

// putCopy puts the copy of a small definition's Body in the place of the spine's head.
func (r *round) putCopy(n *node) *node {
	head, _ := n.spine()
	r.copied += r.measured(head.name).whole.with(sizesOf(head.types))
	if !r.isFull() {
		made := copyOf(r.bodies[head.name].expr, swap.Swap{Places: r.defs[head.name].Params, Types: head.types}, r.names)
		head.above.hold(0, made)
	}
	return n
}

// isOfValue tells whether the first of an ExprSeq is a value.
func (r *round) isOfValue(n *node) bool {
	head, args := n.parts[0].spine()
	switch head.kind {
	case api.ExprInt, api.ExprLam:
		return args == 0
	case api.ExprCon:
		return true
	case api.ExprGlobal:
		return r.bodies[head.name].lambdas > args
	}
	return false
}

func (r *round) leaveFirst(n *node) *node {
	n.parts[0].drop()
	return n.parts[1]
}
