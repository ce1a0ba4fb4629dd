package meaning

import (
	"slices"

	"sloth/api"
)

// expr is an expression whose names were looked up, once for all the times that it is worked out.
type expr struct {
	kind   int
	num    int    // ExprFail
	op     string // ExprOp
	value  value  // ExprInt, ExprCon
	at     place  // ExprVar
	global *cell  // ExprGlobal
	args   []expr
	values []expr        // of the Binds
	alts   map[int]*expr // AltCon: by the constructor's number; AltInt: by the number
	other  *expr         // AltElse
}

// planner looks names up.
type planner struct {
	cons   map[string]*construct // without fields
	defs   map[string]*cell
	locals map[string]place // no name is bound twice in a definition, and none is spoken of where it is not bound: so none is ever taken out
}

func newPlanner(p api.Program) *planner {
	k := &planner{cons: map[string]*construct{}, defs: map[string]*cell{}, locals: map[string]place{}}
	for _, name := range []string{"False", "True", "Unit", "Nil", "Cons", "Pair", "Triple"} {
		k.con(name)
	}
	for _, d := range p.Datas {
		for _, c := range d.Cons {
			k.con(c.Name)
		}
	}
	for i := range p.Defs {
		k.defs[p.Defs[i].Name] = &cell{}
	}
	none := noNames()
	for i := range p.Defs {
		e := k.expr(&p.Defs[i].Body, 0)
		k.defs[p.Defs[i].Name].holds = late{&e, none}
	}
	return k
}

func (k *planner) con(name string) {
	k.cons[name] = &construct{name: name, number: len(k.cons)}
}

// list is a list of numbers as a value, to its end.
func (k *planner) list(l []int) *cell {
	c := &cell{k.cons["Nil"]}
	for _, n := range slices.Backward(l) {
		c = &cell{k.cons["Cons"].with(&cell{number(n)}).with(c)}
	}
	return c
}

// expr looks the names of an expression up, where so many parts of names are in sight. (A lambda's Value is the zero Expr, which is never worked out.)
func (k *planner) expr(e *api.Expr, level int) expr {
	x := expr{kind: e.Kind}
	switch e.Kind {
	case api.ExprVar:
		x.at = k.locals[e.Name]
	case api.ExprInt:
		x.value = number(e.Num)
	case api.ExprGlobal:
		x.global = k.defs[e.Name]
	case api.ExprCon:
		x.value = k.cons[e.Name]
	case api.ExprOp:
		x.op = e.Name
	case api.ExprFail:
		x.num = e.Num
	}
	inside, values := level, level
	if len(e.Binds) > 0 {
		inside++
	}
	if e.Kind == api.ExprLet {
		values = inside
	}
	for i := range e.Binds {
		k.locals[e.Binds[i].Name] = place{inside, i}
	}
	x.values = make([]expr, len(e.Binds))
	for i := range e.Binds {
		x.values[i] = k.expr(&e.Binds[i].Value, values)
	}
	x.args = make([]expr, len(e.Args))
	for i := range e.Args {
		x.args[i] = k.expr(&e.Args[i], inside)
	}
	k.alts(&x, e.Alts, level)
	return x
}

// alts looks the names of alternatives up. One of a constructor binds a part of names, even if that has no fields.
func (k *planner) alts(x *expr, l []api.Alt, level int) {
	if len(l) > 0 {
		x.alts = map[int]*expr{}
	}
	for i := range l {
		a, inside := &l[i], level
		if a.Kind == api.AltCon {
			inside++
		}
		for at, name := range a.Vars {
			k.locals[name] = place{inside, at}
		}
		body := k.expr(&a.Body, inside)
		switch a.Kind {
		case api.AltCon:
			x.alts[k.cons[a.Con].number] = &body
		case api.AltInt:
			x.alts[a.Num] = &body
		default:
			x.other = &body
		}
	}
}
