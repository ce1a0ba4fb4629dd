package worker_test

import (
	"fmt"
	"slices"

	"sloth/api"
	"sloth/strict"
)

// plain is a second form of Split, by the chapter's words: what is asked of a definition is sought each time, types are those of the definitions' own types, what is worked out first is kept in a list.
type plain struct {
	api.Program
	signatures []api.Signature
	names      int
	needed     []api.Type  // the types of all needed arguments that were met
	kinds      map[int]int // how often which kind of expression was one
	stayed     int         // arguments of needed parameters that don't wait
}

func newPlain(p api.Program) *plain {
	l, code := strict.Analyse(p)
	if code != api.OK {
		panic(code)
	}
	return &plain{Program: p, signatures: l, kinds: map[int]int{}}
}

// split is the program, its limits not looked at.
func (k *plain) split() api.Program {
	q := api.Program{Datas: k.Datas}
	for _, d := range k.Defs {
		d.Body = k.body(d.Body)
		q.Defs = append(q.Defs, d)
	}
	return q
}

func (k *plain) body(e api.Expr) api.Expr {
	if e.Kind != api.ExprLam {
		return k.turn(e, true)
	}
	return api.Expr{Kind: api.ExprLam, Binds: e.Binds, Args: []api.Expr{k.body(e.Args[0])}}
}

// turn turns an expression to be worked out, or to be built.
func (k *plain) turn(e api.Expr, isWorked bool) api.Expr {
	switch e.Kind {
	case api.ExprVar, api.ExprInt, api.ExprGlobal, api.ExprCon, api.ExprFail:
		return e
	case api.ExprOp, api.ExprSeq, api.ExprCase, api.ExprHard:
		return k.parts(e, true, true)
	case api.ExprLet:
		return k.parts(e, false, isWorked)
	case api.ExprApp:
		return k.spine(e, isWorked)
	}
	panic(fmt.Sprint("the second form is wrong: ", e.Kind))
}

func (k *plain) parts(e api.Expr, values, others bool) api.Expr {
	e.Args, e.Binds, e.Alts = slices.Clone(e.Args), slices.Clone(e.Binds), slices.Clone(e.Alts)
	for i, b := range e.Binds {
		e.Binds[i].Value = k.turn(b.Value, values)
	}
	for i, a := range e.Args {
		e.Args[i] = k.turn(a, others)
	}
	for i, a := range e.Alts {
		e.Alts[i].Body = k.turn(a.Body, others)
	}
	return e
}

func headAndArgs(e api.Expr) (api.Expr, []api.Expr) {
	if e.Kind != api.ExprApp {
		return e, nil
	}
	h, l := headAndArgs(e.Args[0])
	return h, append(l, e.Args[1])
}

func (k *plain) spine(e api.Expr, isWorked bool) api.Expr {
	h, args := headAndArgs(e)
	var around []api.Bind
	made := k.turn(h, isWorked)
	for i, a := range args {
		if !isWorked || !k.isNeeded(h, args, i) {
			made = call(made, k.turn(a, false))
			continue
		}
		k.names++
		b := api.Bind{Name: fmt.Sprint("a new name, ", k.names), Type: k.paramType(h.Name, i), Value: k.turn(a, true)}
		k.needed = append(k.needed, b.Type)
		k.kinds[a.Kind]++
		around = append(around, b)
		made = call(made, api.Expr{Kind: api.ExprVar, Name: b.Name})
	}
	for _, b := range slices.Backward(around) {
		made = api.Expr{Kind: api.ExprHard, Binds: []api.Bind{b}, Args: []api.Expr{made}}
	}
	return made
}

func (k *plain) def(name string) int {
	return slices.IndexFunc(k.Defs, func(d api.Def) bool { return d.Name == name })
}

func (k *plain) arity(name string) int {
	n := 0
	for e := k.Defs[k.def(name)].Body; e.Kind == api.ExprLam; e = e.Args[0] {
		n++
	}
	return n
}

func (k *plain) paramType(name string, i int) api.Type {
	t := k.Defs[k.def(name)].Type
	for range i {
		t = t.Args[1]
	}
	return t.Args[0]
}

func (k *plain) isNeeded(h api.Expr, args []api.Expr, i int) bool {
	if h.Kind != api.ExprGlobal {
		return false
	}
	n := k.arity(h.Name)
	s := k.signatures[k.def(h.Name)]
	if len(args) < n || !s.Known || i >= n || s.Args[i] < 1 || k.paramType(h.Name, i).Kind == api.TyFun {
		return false
	}
	if !k.waits(args[i]) {
		k.stayed++
		return false
	}
	return true
}

func (k *plain) waits(e api.Expr) bool {
	switch e.Kind {
	case api.ExprOp, api.ExprSeq, api.ExprCase, api.ExprLet, api.ExprHard, api.ExprFail:
		return true
	case api.ExprApp:
		h, args := headAndArgs(e)
		return h.Kind != api.ExprCon && !(h.Kind == api.ExprGlobal && k.arity(h.Name) > len(args))
	}
	return false
}

// growth tells how many nodes the needed arguments bring: an ExprHard, a Bind with its type, and a name in the argument's place.
func (k *plain) growth() int {
	n := 0
	for _, t := range k.needed {
		n += 3 + nodes(t)
	}
	return n
}
