package simplify

import (
	"slices"

	"sloth/api"
)

func (r *round) hasIdle(n *node) bool { return slices.Contains(n.needed(), false) }

func (r *round) dropIdle(n *node) *node {
	needed := n.needed()
	for i, ok := range needed {
		if !ok {
			n.parts[i].drop()
		}
	}
	return n.keep(func(i int) bool { return needed[i] })
}

// needed tells of each Bind of an ExprLet whether it is needed.
func (n *node) needed() []bool {
	marks := make([]bool, len(n.locals))
	speaks := make([][]int, len(n.locals)) // of whom each Value speaks, as far as it matters
	var left []int
	for i, l := range n.locals {
		for _, u := range slices.Backward(l.uses) { // the body was made last
			at := n.partWith(u)
			if at == len(n.locals) {
				marks[i] = true
				left = append(left, i)
				break
			}
			speaks[at] = append(speaks[at], i)
		}
	}
	for len(left) > 0 {
		last := len(left) - 1
		at := left[last]
		left = left[:last]
		for _, i := range speaks[at] {
			if !marks[i] {
				marks[i] = true
				left = append(left, i)
			}
		}
	}
	return marks
}

// partWith tells in which part of an ExprLet something stands that speaks of a local of it. Till that ExprLet is looked at, rules move things only within its parts: so it stands in the one with which it was made, however deep that is.
func (n *node) partWith(use *node) int {
	at, found := slices.BinarySearch(n.starts, use.number)
	if !found {
		at--
	}
	return at
}

// keep leaves only some Binds of an ExprLet; its body, if none is left.
func (n *node) keep(stays func(bind int) bool) *node {
	var locals []*local
	var parts []*node
	for i, l := range n.locals {
		if stays(i) {
			locals, parts = append(locals, l), append(parts, n.parts[i])
		}
	}
	if len(locals) == 0 {
		return n.body()
	}
	n.take(append(parts, n.body()))
	n.locals = locals
	return n
}

func (n *node) without(bind int) *node {
	return n.keep(func(i int) bool { return i != bind })
}

// atom tells the first Bind of an ExprLet whose Value is an atom; -1: none.
func (n *node) atom() int {
	return slices.IndexFunc(n.parts[:len(n.locals)], func(value *node) bool {
		switch value.kind {
		case api.ExprInt, api.ExprCon, api.ExprGlobal:
			return true
		case api.ExprVar:
			return value.is.by != n
		}
		return false
	})
}

func (r *round) hasAtom(n *node) bool { return n.atom() >= 0 }

func (r *round) putAtom(n *node) *node {
	at := n.atom()
	value := n.parts[at]
	for _, u := range n.locals[at].uses {
		u.kind, u.name, u.num, u.types = value.kind, value.name, value.num, value.types
		if u.kind == api.ExprVar {
			value.is.speak(u)
		}
	}
	value.drop()
	return n.without(at)
}

// single tells the first Bind of an ExprLet whose Value may be moved to the one place where its name is spoken of; -1: none.
func (n *node) single() int {
	return slices.IndexFunc(n.locals, func(l *local) bool {
		return len(l.uses) == 1 && n.isOpen(l.uses[0])
	})
}

// isOpen tells whether a node stands in the body of an ExprLet, and there within no lambda and no Value of a Bind.
func (n *node) isOpen(inner *node) bool {
	for ; inner != n; inner = inner.above {
		if above := inner.above; above.kind == api.ExprLam || inner.place < len(above.locals) {
			return false
		}
	}
	return true
}

func (r *round) hasSingle(n *node) bool { return n.single() >= 0 }

func (r *round) putSingle(n *node) *node {
	at := n.single()
	u := n.locals[at].uses[0]
	u.above.hold(u.place, n.parts[at])
	return n.without(at)
}
