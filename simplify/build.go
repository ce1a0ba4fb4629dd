package simplify

import (
	"sloth/api"
	"sloth/swap"
)

// builder makes nodes of a definition's Body.
type builder struct {
	swap.Swap                   // what is put in the places of type parameters
	names     *namer            // who calls the locals anew; nil: they keep their names
	made      int               // how many nodes
	locals    map[string]*local // no name is bound twice, and none is spoken of where it is not bound: so none is ever taken out
}

// nodesOf makes nodes of a Body as it stands.
func nodesOf(body *api.Expr) *node {
	b := builder{locals: map[string]*local{}}
	return b.node(body)
}

// copyOf makes nodes of a Body, with types in the places of its parameters, and new locals.
func copyOf(body *api.Expr, s swap.Swap, names *namer) *node {
	b := builder{Swap: s, names: names, locals: map[string]*local{}}
	return b.node(body)
}

func (b *builder) node(e *api.Expr) *node {
	n := &node{kind: e.Kind, name: e.Name, num: e.Num, types: b.List(e.Types), number: b.made}
	b.made++
	if e.Kind == api.ExprVar {
		b.locals[e.Name].speak(n)
	}
	for i := range e.Binds {
		n.locals = append(n.locals, b.local(e.Binds[i].Name, b.Put(e.Binds[i].Type)))
	}
	for i := range e.Alts {
		n.alts = append(n.alts, b.alt(&e.Alts[i]))
	}
	n.own()
	n.take(b.parts(e))
	if e.Kind == api.ExprLet {
		n.starts = numbersOf(n.parts)
	}
	return n
}

func (b *builder) parts(e *api.Expr) []*node {
	var l []*node
	for i := range e.Binds {
		if e.Kind != api.ExprLam {
			l = append(l, b.node(&e.Binds[i].Value))
		}
	}
	for i := range e.Args {
		l = append(l, b.node(&e.Args[i]))
	}
	for i := range e.Alts {
		l = append(l, b.node(&e.Alts[i].Body))
	}
	return l
}

func numbersOf(l []*node) []int {
	numbers := make([]int, len(l))
	for i, n := range l {
		numbers[i] = n.number
	}
	return numbers
}

func (b *builder) alt(a *api.Alt) alt {
	made := alt{kind: a.Kind, con: a.Con, num: a.Num}
	for i, name := range a.Vars {
		l := b.local(name, api.Type{})
		l.con, l.field = a.Con, i
		made.vars = append(made.vars, l)
	}
	return made
}

func (b *builder) local(name string, t api.Type) *local {
	l := &local{name: name, typ: t}
	if b.names != nil {
		l.name = b.names.fresh()
	}
	b.locals[name] = l
	return l
}
