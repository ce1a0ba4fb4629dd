package simplify

import "sloth/api"

// tell makes an expression of a node. Its types may be shared with others.
func (n *node) tell() api.Expr {
	e := api.Expr{Kind: n.kind, Name: n.name, Num: n.num, Types: n.types}
	if n.kind == api.ExprVar {
		e.Name = n.is.name
	}
	parts := n.parts
	for _, l := range n.locals {
		b := api.Bind{Name: l.name, Type: l.typ}
		if n.kind != api.ExprLam {
			b.Value, parts = parts[0].tell(), parts[1:]
		}
		e.Binds = append(e.Binds, b)
	}
	args := len(parts) - len(n.alts)
	for _, part := range parts[:args] {
		e.Args = append(e.Args, part.tell())
	}
	for i, a := range n.alts {
		e.Alts = append(e.Alts, a.tell(parts[args+i]))
	}
	return e
}

func (a alt) tell(body *node) api.Alt {
	made := api.Alt{Kind: a.kind, Con: a.con, Num: a.num, Body: body.tell()}
	for _, l := range a.vars {
		made.Vars = append(made.Vars, l.name)
	}
	return made
}
