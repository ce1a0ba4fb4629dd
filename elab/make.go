package elab

import (
	"strconv"

	"sloth/api"
)

// The calls here make expressions of their parts.

// put counts an expression that is made, and drops it, if there are too many.
func (d *definer) put(e api.Expr) api.Expr {
	d.nodes++
	if d.isFull() {
		return api.Expr{}
	}
	return e
}

// fresh tells the number of a new name.
func (d *definer) fresh() int {
	d.made++
	return d.made
}

func nameOf(number int) string { return "x" + strconv.Itoa(number) }

func (d *definer) local(number int) api.Expr {
	return d.put(api.Expr{Kind: api.ExprVar, Name: nameOf(number)})
}

func (d *definer) apply(f, x api.Expr) api.Expr {
	return d.put(api.Expr{Kind: api.ExprApp, Args: []api.Expr{f, x}})
}

func (d *definer) bind(number int, t api.Type, value api.Expr) api.Bind {
	return api.Bind{Name: nameOf(number), Type: d.typ(t), Value: value}
}

func (d *definer) lambda(number int, t api.Type, body api.Expr) api.Expr {
	bind := d.bind(number, t, api.Expr{})
	return d.put(api.Expr{Kind: api.ExprLam, Binds: []api.Bind{bind}, Args: []api.Expr{body}})
}

func (d *definer) let(binds []api.Bind, body api.Expr) api.Expr {
	return d.put(api.Expr{Kind: api.ExprLet, Binds: binds, Args: []api.Expr{body}})
}

func (d *definer) choose(looked api.Expr, alts []api.Alt) api.Expr {
	return d.put(api.Expr{Kind: api.ExprCase, Args: []api.Expr{looked}, Alts: alts})
}

func (d *definer) stuck(how int, t api.Type) api.Expr {
	return d.put(api.Expr{Kind: api.ExprFail, Num: how, Types: []api.Type{d.typ(t)}})
}

// both is a built-in operator, or seq, of two operands.
func (d *definer) both(op string, a, b api.Expr) api.Expr {
	if op == "seq" {
		return d.put(api.Expr{Kind: api.ExprSeq, Args: []api.Expr{a, b}})
	}
	return d.put(api.Expr{Kind: api.ExprOp, Name: op, Args: []api.Expr{a, b}})
}
