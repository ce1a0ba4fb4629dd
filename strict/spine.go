package strict

import (
	"slices"

	"sloth/api"
	"sloth/typed"
)

// spine builds an application: what is applied, which is no application itself, and the arguments.
func (b *builder) spine(e *api.Expr) part {
	var args []part
	weight := 0
	for ; e.Kind == api.ExprApp; e = &e.Args[0] {
		a := b.expr(&e.Args[1])
		args = append(args, a)
		weight = plus(weight, plus(1, a.weight))
	}
	slices.Reverse(args)
	var made part
	switch e.Kind {
	case api.ExprGlobal:
		made = b.global(b.defs[e.Name], args)
	case api.ExprCon:
		made = b.con(e, args)
	default:
		made = b.applied(b.expr(e), args)
	}
	made.weight = plus(made.weight, weight)
	return made
}

// global builds a definition with its arguments; its own weight alone is told.
func (b *builder) global(d *definition, args []part) part {
	b.def.needs = append(b.def.needs, d.place)
	count := min(len(args), len(d.params))
	made := b.called(&d.table, behindArgs(d.typ, count), args[:count])
	return b.applied(made, args[count:])
}

// con builds a constructor with its fields. Only of Cons does it matter what they come to.
func (b *builder) con(e *api.Expr, args []part) part {
	c := b.cons[e.Name]
	t := typed.General{Params: c.Params, Is: behindArgs(c.Is, len(args))}.At(e.Types)
	if e.Name == "Cons" {
		return b.called(b.cell(b.orderOf(e.Types[0])), t, args)
	}
	return part{constant(b.orderOf(t).greatest()), t, 1}
}

// called builds a call, of that type, of something with no more arguments than it takes.
func (b *builder) called(of *table, t api.Type, args []part) part {
	c := call{of: of}
	for _, a := range args {
		c.args = append(c.args, a.node)
	}
	lacks := len(of.params) - len(args)
	if lacks == 0 {
		return part{&c, t, 1}
	}
	o := b.orderOf(t)
	if !o.isKnown() {
		return part{constant(0), t, 1}
	}
	made := &short{call: c}
	for range lacks {
		made.orders = append(made.orders, o)
		o = o.to
	}
	return part{made, t, 1}
}

// applied builds a function that is given arguments, one by one; the function's weight alone is told.
func (b *builder) applied(f part, args []part) part {
	for _, a := range args {
		o, t := b.orderOf(f.typ), f.typ.Args[1]
		if o.isKnown() {
			f.node = &applied{o, f.node, a.node}
		} else {
			f.node = constant(b.orderOf(t).greatest())
		}
		f.typ = t
	}
	return f
}
