package simplify

import (
	"slices"

	"sloth/api"
)

// tell makes an expression of a node. Its types may be shared with others.
func (n *node) tell() api.Expr {
	e := api.Expr{Kind: n.kind, Name: n.name, Num: n.num, Types: n.types}
	if n.kind == api.ExprVar {
		e.Name = n.is.name
	}
	parts := n.parts
	for _, l := range n.locals {
		b := api.Bind{Name: l.name, Type: l.typ}
		if n.kind != api.ExprLam {
			b.Value, parts = parts[0].tell(), parts[1:]
		}
		e.Binds = append(e.Binds, b)
	}
	args := len(parts) - len(n.alts)
	for _, part := range parts[:args] {
		e.Args = append(e.Args, part.tell())
	}
	for i, a := range n.alts {
		e.Alts = append(e.Alts, a.tell(parts[args+i]))
	}
	return e
}

func (a alt) tell(body *node) api.Alt {
	made := api.Alt{Kind: a.kind, Con: a.con, Num: a.num, Body: body.tell()}
	for _, l := range a.vars {
		made.Vars = append(made.Vars, l.name)
	}
	return made
}

// The calls below make things in memory of their own.

func anew(p api.Program) api.Program {
	var q api.Program
	for _, d := range p.Datas {
		d.Params = slices.Clone(d.Params)
		d.Cons = slices.Clone(d.Cons)
		for i := range d.Cons {
			d.Cons[i].Fields = newTypes(d.Cons[i].Fields)
		}
		q.Datas = append(q.Datas, d)
	}
	for _, d := range p.Defs {
		d.Params = slices.Clone(d.Params)
		q.Defs = append(q.Defs, api.Def{Name: d.Name, Params: d.Params, Type: newType(d.Type), Body: newExpr(&d.Body)})
	}
	return q
}

func newExpr(e *api.Expr) api.Expr {
	made := api.Expr{Kind: e.Kind, Name: e.Name, Num: e.Num, Types: newTypes(e.Types)}
	for i := range e.Args {
		made.Args = append(made.Args, newExpr(&e.Args[i]))
	}
	for i := range e.Binds {
		b := &e.Binds[i]
		made.Binds = append(made.Binds, api.Bind{Name: b.Name, Type: newType(b.Type), Value: newExpr(&b.Value)})
	}
	for i := range e.Alts {
		a := &e.Alts[i]
		made.Alts = append(made.Alts, api.Alt{Kind: a.Kind, Con: a.Con, Num: a.Num, Vars: slices.Clone(a.Vars), Body: newExpr(&a.Body)})
	}
	return made
}

func newTypes(l []api.Type) []api.Type {
	var made []api.Type
	for _, t := range l {
		made = append(made, newType(t))
	}
	return made
}

func newType(t api.Type) api.Type {
	t.Args = newTypes(t.Args)
	return t
}
