package core_test

import (
	"reflect"
	"testing"
	"time"

	"sloth/api"
	"sloth/core"
	"sloth/types"
)

// The pieces of which inputs are made here.

var integer = api.Type{Kind: api.TyInt}

func variable(name string) api.Type { return api.Type{Kind: api.TyVar, Name: name} }

func fun(of, to api.Type) api.Type {
	return api.Type{Kind: api.TyFun, Args: []api.Type{of, to}}
}

func data(name string, args ...api.Type) api.Type {
	return api.Type{Kind: api.TyData, Name: name, Args: args}
}

// typ reads a type.
func typ(text string) api.Type {
	t, code := types.Read(text)
	if code != api.OK {
		panic("no type: " + text)
	}
	return t
}

// great is a type of so many nodes, with that leaf in it.
func great(nodes int, leaf api.Type) api.Type {
	if nodes%2 == 0 {
		return data("List", great(nodes-1, leaf))
	}
	t := leaf
	for range (nodes - 1) / 2 {
		t = fun(leaf, t)
	}
	return t
}

func local(name string) api.Expr { return api.Expr{Kind: api.ExprVar, Name: name} }

func num(n int) api.Expr { return api.Expr{Kind: api.ExprInt, Num: n} }

func global(name string, types ...api.Type) api.Expr {
	return api.Expr{Kind: api.ExprGlobal, Name: name, Types: types}
}

func con(name string, types ...api.Type) api.Expr {
	return api.Expr{Kind: api.ExprCon, Name: name, Types: types}
}

func app(f api.Expr, args ...api.Expr) api.Expr {
	for _, x := range args {
		f = api.Expr{Kind: api.ExprApp, Args: []api.Expr{f, x}}
	}
	return f
}

func lam(name string, t api.Type, body api.Expr) api.Expr {
	return api.Expr{Kind: api.ExprLam, Binds: []api.Bind{{Name: name, Type: t}}, Args: []api.Expr{body}}
}

func let(body api.Expr, binds ...api.Bind) api.Expr {
	return api.Expr{Kind: api.ExprLet, Binds: binds, Args: []api.Expr{body}}
}

func hard(name string, t api.Type, value, body api.Expr) api.Expr {
	return api.Expr{Kind: api.ExprHard, Binds: []api.Bind{{Name: name, Type: t, Value: value}}, Args: []api.Expr{body}}
}

func cases(of api.Expr, alts ...api.Alt) api.Expr {
	return api.Expr{Kind: api.ExprCase, Args: []api.Expr{of}, Alts: alts}
}

func op(name string, a, b api.Expr) api.Expr {
	return api.Expr{Kind: api.ExprOp, Name: name, Args: []api.Expr{a, b}}
}

func seq(a, b api.Expr) api.Expr { return api.Expr{Kind: api.ExprSeq, Args: []api.Expr{a, b}} }

func fail(n int, t api.Type) api.Expr {
	return api.Expr{Kind: api.ExprFail, Num: n, Types: []api.Type{t}}
}

func altCon(name string, body api.Expr, vars ...string) api.Alt {
	return api.Alt{Kind: api.AltCon, Con: name, Vars: vars, Body: body}
}

func altInt(n int, body api.Expr) api.Alt { return api.Alt{Kind: api.AltInt, Num: n, Body: body} }

func altElse(body api.Expr) api.Alt { return api.Alt{Kind: api.AltElse, Body: body} }

// one is a program of one definition without Params.
func one(t api.Type, body api.Expr) api.Program {
	return api.Program{Defs: []api.Def{{Name: "f", Type: t, Body: body}}}
}

// bare is the same with nil for all empty lists, in memory of its own.
func bare[T any](x T) T {
	switch x := any(&x).(type) {
	case *api.Program:
		x.Datas, x.Defs = every(x.Datas, bareData), every(x.Defs, bareDef)
	case *api.Expr:
		*x = bareExpr(*x)
	case *api.Type:
		*x = bareType(*x)
	case *[]api.Bind:
		*x = every(*x, bareBind)
	default:
		panic("not bare")
	}
	return x
}

func every[T any](l []T, do func(T) T) []T {
	var out []T
	for i := range l {
		out = append(out, do(l[i]))
	}
	return out
}

func bareText(s string) string { return s }

func bareType(t api.Type) api.Type {
	t.Args = every(t.Args, bareType)
	return t
}

func bareData(d api.Data) api.Data {
	d.Params = every(d.Params, bareText)
	d.Cons = every(d.Cons, func(c api.Con) api.Con {
		c.Fields = every(c.Fields, bareType)
		return c
	})
	return d
}

func bareDef(d api.Def) api.Def {
	d.Params, d.Type, d.Body = every(d.Params, bareText), bareType(d.Type), bareExpr(d.Body)
	return d
}

func bareBind(b api.Bind) api.Bind {
	b.Type, b.Value = bareType(b.Type), bareExpr(b.Value)
	return b
}

func bareExpr(e api.Expr) api.Expr {
	e.Types, e.Args, e.Binds = every(e.Types, bareType), every(e.Args, bareExpr), every(e.Binds, bareBind)
	e.Alts = every(e.Alts, func(a api.Alt) api.Alt {
		a.Vars, a.Body = every(a.Vars, bareText), bareExpr(a.Body)
		return a
	})
	return e
}

// alike: a nil list and an empty one are the same (W5).
func alike[T any](a, b T) bool { return reflect.DeepEqual(bare(a), bare(b)) }

// read reads a right text.
func read(t *testing.T, text string) api.Program {
	t.Helper()
	p, code := core.Read(text)
	if code != api.OK {
		t.Fatalf("Read(%s): %v", short(text), code)
	}
	return p
}

func checkCode(t *testing.T, what string, code, want api.Errno) {
	t.Helper()
	if code != want {
		t.Errorf("%s: %v, want %v", short(what), code, want)
	}
}

// checkText: what Check says of the program of a text.
func checkText(t *testing.T, text string, want api.Errno) {
	t.Helper()
	checkCode(t, text, core.Check(read(t, text)), want)
}

func short(s string) string {
	if len(s) > 600 {
		return s[:300] + " .. " + s[len(s)-200:]
	}
	return s
}

func soon(t *testing.T, what string, do func()) {
	t.Helper()
	done := make(chan struct{})
	go func() {
		defer close(done)
		do()
	}()
	select {
	case <-done:
	case <-time.After(time.Minute):
		t.Fatal("too long:", what)
	}
}

// chain is an expression so many deep: a sum in a sum.
func chain(deep int) api.Expr {
	e := num(1)
	for range deep - 1 {
		e = op("+", e, num(1))
	}
	return e
}
