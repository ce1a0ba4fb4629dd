// Package anew: programs in memory of their own, in which no two lists share any (DOC.md, W6).
package anew

import (
	"slices"

	"sloth/api"
)

// Program makes a program that is the same, and shares nothing with it.
func Program(p api.Program) api.Program {
	var made api.Program
	for _, d := range p.Datas {
		d.Params = slices.Clone(d.Params)
		d.Cons = slices.Clone(d.Cons)
		for i := range d.Cons {
			d.Cons[i].Fields = types(d.Cons[i].Fields)
		}
		made.Datas = append(made.Datas, d)
	}
	for _, d := range p.Defs {
		d.Params = slices.Clone(d.Params)
		made.Defs = append(made.Defs, api.Def{Name: d.Name, Params: d.Params, Type: typ(d.Type), Body: expr(&d.Body)})
	}
	return made
}

func expr(e *api.Expr) api.Expr {
	made := api.Expr{Kind: e.Kind, Name: e.Name, Num: e.Num, Types: types(e.Types)}
	for i := range e.Args {
		made.Args = append(made.Args, expr(&e.Args[i]))
	}
	for i := range e.Binds {
		b := &e.Binds[i]
		made.Binds = append(made.Binds, api.Bind{Name: b.Name, Type: typ(b.Type), Value: expr(&b.Value)})
	}
	for i := range e.Alts {
		a := &e.Alts[i]
		made.Alts = append(made.Alts, api.Alt{Kind: a.Kind, Con: a.Con, Num: a.Num, Vars: slices.Clone(a.Vars), Body: expr(&a.Body)})
	}
	return made
}

func types(l []api.Type) []api.Type {
	var made []api.Type
	for _, t := range l {
		made = append(made, typ(t))
	}
	return made
}

func typ(t api.Type) api.Type {
	t.Args = types(t.Args)
	return t
}
