package elab

import (
	"slices"

	"sloth/api"
	"sloth/typing"
)

// row is one of the rows of which a tree was made.
type row struct {
	*definer
	of   *typing.Row
	name int // of a shared row: the number of the name that stands for it
}

// here is the row's body, where its variables have these names.
func (r *row) here(names []int) api.Expr {
	given := make([]string, len(r.of.Locals))
	for i, l := range r.of.Locals {
		given[i] = l.Name
	}
	var e api.Expr
	r.inside(given, names, func() { e = r.expr(&r.of.Body) })
	return e
}

// call is a shared row's name, applied to the names of its variables.
func (r *row) call(names []int) api.Expr {
	e := r.local(r.name)
	for _, name := range names {
		if r.isFull() {
			break
		}
		e = r.apply(e, r.local(name))
	}
	return e
}

// share gives a row a name, by which it is called then: it is a function of its variables.
func (r *row) share(answer api.Type) api.Bind {
	t, ok := r.whole(answer)
	if !ok {
		r.failed = true
		return api.Bind{}
	}
	r.name = r.fresh()
	names := make([]int, len(r.of.Locals))
	for i := range names {
		names[i] = r.fresh()
	}
	e := r.here(names)
	for i, l := range slices.Backward(r.of.Locals) {
		e = r.lambda(names[i], r.worth(l.Type), e)
	}
	return r.bind(r.name, t, e)
}

// whole is the type of a function of the row's variables, and whether it is not too great.
func (r *row) whole(answer api.Type) (api.Type, bool) {
	t, nodes := answer, nodesOf(answer)
	for _, l := range slices.Backward(r.of.Locals) {
		of := r.worth(l.Type)
		t = api.Type{Kind: api.TyFun, Args: []api.Type{of, t}}
		nodes += 1 + nodesOf(of)
		if nodes > api.MaxType {
			return api.Type{}, false
		}
	}
	return t, true
}

func nodesOf(t api.Type) int {
	nodes := 1
	for _, a := range t.Args {
		nodes += nodesOf(a)
	}
	return nodes
}
