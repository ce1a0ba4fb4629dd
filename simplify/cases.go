package simplify

import (
	"slices"

	"sloth/api"
	"sloth/arith"
)

// isOfCon tells whether an ExprCase looks at a constructor. It has all its fields then, since nobody looks at a function.
func (r *round) isOfCon(n *node) bool {
	head, _ := n.parts[0].spine()
	return head.kind == api.ExprCon
}

// choose makes the choice of an ExprCase, where a number or a constructor with all its fields is looked at.
func (r *round) choose(n *node) *node {
	head, args := n.parts[0].spine()
	at := slices.IndexFunc(n.alts, func(a alt) bool { return a.isFor(head) })
	if at < 0 {
		return r.fail(n, api.StuckMatch)
	}
	for i := range n.alts {
		if i != at {
			n.parts[1+i].drop()
		}
	}
	vars, body := n.alts[at].vars, n.parts[1+at]
	if len(vars) == 0 {
		n.parts[0].drop()
		return body
	}
	for i, l := range vars {
		l.typ = r.cons[head.name].Field(i, head.types)
	}
	return newLet(vars, append(n.parts[0].spineArgs(args), body))
}

// isFor tells whether an alternative fits a number or a constructor.
func (a alt) isFor(n *node) bool {
	switch a.kind {
	case api.AltCon:
		return a.con == n.name
	case api.AltInt:
		return a.num == n.num
	}
	return true
}

// isKnown tells whether an ExprOp comes to something that is known.
func (r *round) isKnown(n *node) bool {
	a, b := n.parts[0], n.parts[1]
	if a.kind != api.ExprInt || b.kind != api.ExprInt {
		return false
	}
	_, compares := arith.Compare(n.name, a.num, b.num)
	_, ok := arith.Sum(n.name, a.num, b.num)
	return compares || ok
}

func (r *round) workOut(n *node) *node {
	a, b := n.parts[0].num, n.parts[1].num
	if holds, compares := arith.Compare(n.name, a, b); compares {
		return newTruth(holds)
	}
	sum, _ := arith.Sum(n.name, a, b)
	return &node{kind: api.ExprInt, num: sum}
}

func newTruth(holds bool) *node {
	name := "False"
	if holds {
		name = "True"
	}
	return &node{kind: api.ExprCon, name: name}
}
