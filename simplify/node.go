package simplify

import "sloth/api"

// node is an expression of a definition that is being made simpler. It knows where it stands, and each local where it is spoken of, so that a rule need not go through all that lies within.
type node struct {
	kind   int // as of api.Expr, like name, num and types
	name   string
	num    int
	types  []api.Type // never changed: many nodes may share it
	is     *local     // ExprVar: of whom it speaks
	use    int        // ExprVar: its place in the uses of that
	locals []*local   // of the Binds
	alts   []alt
	parts  []*node // the Binds' Values (of ExprLam none), the Args, the Bodies of the Alts
	above  *node   // whose part it is
	place  int     // which part of that
	number int     // in the order in which the nodes of a Body were made, each ahead of its parts
	starts []int   // ExprLet: the numbers of the parts with which it was made
}

type alt struct {
	kind int
	con  string
	num  int
	vars []*local
}

type local struct {
	name  string
	typ   api.Type // of an alternative's local the zero Type, till it is asked for
	by    *node    // which binds it
	con   string   // of an alternative's local: the field that it stands for
	field int
	uses  []*node // all that speak of it
}

// take makes nodes the parts of another.
func (n *node) take(parts []*node) {
	n.parts = parts
	for i, part := range parts {
		n.hold(i, part)
	}
}

func (n *node) hold(place int, part *node) {
	n.parts[place] = part
	part.above, part.place = n, place
}

// body is what an ExprLet or ExprHard comes to.
func (n *node) body() *node { return n.parts[len(n.parts)-1] }

// own tells the locals that a node binds who binds them.
func (n *node) own() {
	for _, l := range n.locals {
		l.by = n
	}
	for _, a := range n.alts {
		for _, l := range a.vars {
			l.by = n
		}
	}
}

// newLet makes an ExprLet of locals, with their Values and the body as its parts.
func newLet(locals []*local, parts []*node) *node {
	n := &node{kind: api.ExprLet, locals: locals}
	n.take(parts)
	n.own()
	return n
}

func newFail(num int, t api.Type) *node {
	return &node{kind: api.ExprFail, num: num, types: []api.Type{t}}
}

// speak makes a node one that speaks of the local.
func (l *local) speak(n *node) {
	n.is, n.use = l, len(l.uses)
	l.uses = append(l.uses, n)
}

// forget takes a node out of the uses; the last one gets its place.
func (l *local) forget(n *node) {
	last := len(l.uses) - 1
	other := l.uses[last]
	l.uses[n.use], other.use = other, n.use
	l.uses = l.uses[:last]
}

// drop says that a node goes, with all within it: who is spoken of there is so no more.
func (n *node) drop() {
	if n.kind == api.ExprVar {
		n.is.forget(n)
	}
	for _, part := range n.parts {
		part.drop()
	}
}

// spine tells the head of a spine and how many arguments it has.
func (n *node) spine() (head *node, args int) {
	for n.kind == api.ExprApp {
		n = n.parts[0]
		args++
	}
	return n, args
}

// spineArgs tells the arguments of a spine of so many, from the left.
func (n *node) spineArgs(args int) []*node {
	l := make([]*node, args)
	for i := args - 1; i >= 0; i-- {
		l[i] = n.parts[1]
		n = n.parts[0]
	}
	return l
}
