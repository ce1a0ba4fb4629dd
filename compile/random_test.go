package compile_test

import (
	"fmt"
	"math/rand"
	"slices"
	"strings"
	"testing"

	"sloth/api"
	"sloth/builtin"
	"sloth/core"
	"sloth/lift"
)

const unknown = "(Int -> ((List Int) -> (List Int)))" // Cons alone is of it

const someDatas = `
(data M.T (a b) ("M.L") ("M.N" (M.T a b) a (List b)) ("M.N'" (a -> b)))
(data M.E () ("M.R") ("M.I" Int M.E) ("m0!1" Int) ("f0!2" M.E))
(def "eat" () (M.E -> Int) (lam "e" M.E (case "e" (con "M.R" () 0) (con "M.I" ("x" "r") (op + "x" (app (global "eat") "r"))) (con "m0!1" ("y") "y") (con "f0!2" ("z") (app (global "eat") "z")))))
(def "both" () ((Pair Int Int) -> (Bool -> Int)) (lam "p" (Pair Int Int) (lam "b" Bool (case "p" (con "Pair" ("x" "y") (case "b" (con "True" () "x") (else "y")))))))
(def "great" () (Int -> (Int -> (List Int))) (lam "x" Int (lam "y" Int (case (op < "x" "y") (con "True" () (app (app (con "Cons" Int) "y") (con "Nil" Int))) (con "False" () (app (app (con "Cons" Int) "x") (con "Nil" Int)))))))
(def "swap" () (M.E -> (Int -> (Pair Int Int))) (lam "e" M.E (lam "x" Int (case "e" (con "M.I" ("y" "r") (app (app (con "Pair" Int Int) "y") "x")) (else (app (app (con "Pair" Int Int) "x") "x"))))))
(def "add" () (Int -> (Int -> Int)) (lam "x" Int (lam "y" Int (op + "x" "y"))))
(def "k" () (Int -> (Int -> Int)) (lam "x" Int (lam "y" Int "x")))
(def "loop" () (Int -> Int) (lam "x" Int (app (global "loop") "x")))
(def "fac" () (Int -> Int) (lam "n" Int (case (op <= "n" 0) (con "True" () 1) (con "False" () (hard "k" Int (op - "n" 1) (op * "n" (app (global "fac") "k")))))))
(def "len" () ((List Int) -> Int) (lam "l" (List Int) (case "l" (con "Nil" () 0) (con "Cons" ("x" "t") (op + 1 (app (global "len") "t"))))))
(def "sum" () ((List Int) -> Int) (lam "l" (List Int) (case "l" (con "Nil" () 0) (con "Cons" ("x" "t") (op + "x" (app (global "sum") "t"))))))
(def "from" () (Int -> (List Int)) (lam "n" Int (app (app (con "Cons" Int) "n") (app (global "from") (op + "n" 1)))))
(def "take" () (Int -> ((List Int) -> (List Int))) (lam "n" Int (lam "l" (List Int) (case (op <= "n" 0) (con "True" () (con "Nil" Int)) (else (case "l" (con "Nil" () "l") (con "Cons" ("x" "t") (app (app (con "Cons" Int) "x") (app (app (global "take") (op - "n" 1)) "t")))))))))
(def "map" () ((Int -> Int) -> ((List Int) -> (List Int))) (lam "f" (Int -> Int) (lam "l" (List Int) (case "l" (con "Nil" () "l") (con "Cons" ("x" "t") (app (app (con "Cons" Int) (app "f" "x")) (app (app (global "map") "f") "t")))))))
(def "ap" () ((Int -> Int) -> (Int -> Int)) (lam "f" (Int -> Int) (lam "x" Int (app "f" "x"))))
(def "fold" () ((Int -> ((List Int) -> (List Int))) -> ((List Int) -> (List Int))) (lam "c" (Int -> ((List Int) -> (List Int))) (lam "l" (List Int) (case "l" (con "Nil" () "l") (con "Cons" ("x" "t") (app (app "c" "x") (app (app (global "fold") "c") "t")))))))
(def "plus" () (Int -> (Int -> Int)) (global "add"))
(def "seven" () Int 7)
`

// maker makes lifted programs at random, whose definitions m0, m1 and so on are entries.
type maker struct {
	*rand.Rand
	api.Program
	datas []api.Data // with the built-in ones
	def   int        // the definition that is being made
	names []int      // those of locals that are still to be dealt, in no order
	luck  int        // one expression of so many is stuck, one leaf of a tenth of that
	ring  int        // of so many definitions that are spoken of, one may stand behind or be the same
	quiet int        // of so many expressions, one is a local, if that may be
}

func pick[T any](r *rand.Rand, l ...T) T { return l[r.Intn(len(l))] }

// many hands on makers, till something fails.
func many(t *testing.T, seed int64, times int, do func(*maker)) {
	t.Helper()
	r := rand.New(rand.NewSource(seed))
	for range times {
		k := newMaker(r)
		if e := core.Check(k.Program); e != api.OK || !lift.Lifted(k.Program) {
			t.Fatal("the maker is wrong:", e)
		}
		if do(k); t.Failed() {
			return
		}
	}
}

func newMaker(r *rand.Rand) *maker {
	p, e := core.Read(someDatas)
	if e != api.OK {
		panic(e)
	}
	k := &maker{Rand: r, Program: p, datas: append(builtin.Datas(), p.Datas...), luck: pick(r, 2000, 300, 25), ring: pick(r, 1, 1, 1, 6), quiet: pick(r, 2, 3, 5)}
	first := len(k.Defs)
	for i := range 1 + r.Intn(4) {
		k.Defs = append(k.Defs, api.Def{Name: fmt.Sprint("f", i), Type: k.function()})
	}
	for range r.Intn(4) { // names that suspended expressions and constructors as functions would have
		name := pick(r, "f0!1", "f0!2", "f1!1", "m0!1", "m0!3", "f0!1!1", "Cons", "Cons'", "M.N", "M.N''", "Pair", "m0!1'", "f0!2'")
		if !slices.ContainsFunc(k.Defs, func(d api.Def) bool { return d.Name == name }) {
			k.Defs = append(k.Defs, api.Def{Name: name, Type: k.function()})
		}
	}
	for i := range 1 + r.Intn(3) {
		t := typ(pick(r, "Int", "Bool", list, list, "(Pair Int (List Bool))", "M.E", "(List (List Int))", "(Triple Int Unit M.E)"))
		if r.Intn(2) == 0 {
			t = function(typ(list), t)
		}
		k.Defs = append(k.Defs, api.Def{Name: fmt.Sprint("m", i), Type: t})
	}
	for i := first; i < len(k.Defs); i++ {
		k.def, k.names = i, r.Perm(5000)
		k.Defs[i].Body = k.body(k.Defs[i].Type)
	}
	r.Shuffle(len(k.Defs), func(i, j int) { k.Defs[i], k.Defs[j] = k.Defs[j], k.Defs[i] })
	return k
}

func (k *maker) function() api.Type {
	t := k.typ()
	for range k.Intn(6) {
		t = function(k.typ(), t)
	}
	return t
}

// entries tells which definitions may be run.
func (k *maker) entries() []string {
	l := []string{"len", "sum"}
	for _, d := range k.Defs {
		if len(d.Name) == 2 && strings.HasPrefix(d.Name, "m") {
			l = append(l, d.Name)
		}
	}
	return l
}

func (k *maker) input() []int {
	l := make([]int, k.Intn(6))
	for i := range l {
		l[i] = pick(k.Rand, 0, 1, 2, 3, -1, 5, api.MinInt, api.MaxInt)
	}
	return l
}

// body makes that of a definition: as many lambdas as it takes arguments, or fewer.
func (k *maker) body(t api.Type) api.Expr {
	var l []api.Bind
	for t.Kind == api.TyFun && k.Intn(8) > 0 {
		l, t = append(l, k.local(t.Args[0])), t.Args[1]
	}
	e := k.expr(t, l, 3+k.Intn(4))
	for _, b := range slices.Backward(l) {
		e = api.Expr{Kind: api.ExprLam, Binds: []api.Bind{b}, Args: []api.Expr{e}}
	}
	return e
}

// local makes a new local.
func (k *maker) local(t api.Type) api.Bind {
	n := k.names[0]
	k.names = k.names[1:]
	return api.Bind{Name: fmt.Sprint(pick(k.Rand, "v", "f0!", "Cons", " ", "\"\\"), n), Type: t}
}

func function(from, to api.Type) api.Type {
	return api.Type{Kind: api.TyFun, Args: []api.Type{from, to}}
}

func (k *maker) typ() api.Type {
	return typ(pick(k.Rand, "Int", "Int", "Int", "Int", "Int", "Bool", "Bool", list, list, list, list, "(List Bool)", "(List (List Int))", "(List (Int -> Int))",
		"(Pair Int Int)", "(Pair (List Int) (Int -> Int))", "(M.T Int (List Int))", "M.E", "M.E", "(Int -> Int)", "(Int -> Int)", "((List Int) -> Int)", "(Int -> (Int -> Int))",
		"(Int -> M.E)", "(M.E -> M.E)", "(Int -> (Int -> (Pair Int Int)))", "((Int -> Int) -> (M.T Int Int))", unknown, unknown))
}

func sameType(a, b api.Type) bool {
	return a.Kind == b.Kind && a.Name == b.Name && slices.EqualFunc(a.Args, b.Args, sameType)
}

func call(f api.Expr, args ...api.Expr) api.Expr {
	for _, x := range args {
		f = api.Expr{Kind: api.ExprApp, Args: []api.Expr{f, x}}
	}
	return f
}

func with(l []api.Bind, b ...api.Bind) []api.Bind { return append(slices.Clone(l), b...) }

func replaced(params []string, args []api.Type, t api.Type) api.Type {
	if t.Kind == api.TyVar {
		return args[slices.Index(params, t.Name)]
	}
	t.Args = slices.Clone(t.Args)
	for i, a := range t.Args {
		t.Args[i] = replaced(params, args, a)
	}
	return t
}

// expr makes an expression of that type, where these locals are known.
func (k *maker) expr(t api.Type, l []api.Bind, deep int) api.Expr {
	if k.Intn(k.luck) == 0 {
		return k.stuck(t)
	}
	if k.Intn(k.quiet) == 0 || deep <= 0 {
		if e, ok := k.spoken(t, l, deep); ok {
			return e
		}
	}
	if deep <= 0 {
		return k.leaf(t, l, 2)
	}
	deep--
	switch k.Intn(22) {
	case 0, 1:
		return k.lets(t, l, deep)
	case 2, 3:
		return api.Expr{Kind: api.ExprSeq, Args: []api.Expr{k.expr(k.typ(), l, deep), k.expr(t, l, deep)}}
	case 4, 5:
		b := k.local(k.typ())
		b.Value = k.expr(b.Type, l, deep)
		return api.Expr{Kind: api.ExprHard, Binds: []api.Bind{b}, Args: []api.Expr{k.expr(t, with(l, b), deep)}}
	case 6:
		of := k.typ()
		return call(k.expr(function(of, t), l, deep), k.expr(of, l, deep))
	case 7, 8, 9:
		return k.cases(t, l, deep)
	case 10, 11, 12, 13, 14, 15, 16:
		if e, ok := k.global(t, l, deep); ok {
			return e
		}
	}
	return k.own(t, l, deep)
}

// spoken makes a local applied to so many things that it is of that type, if there is one.
func (k *maker) spoken(t api.Type, l []api.Bind, deep int) (api.Expr, bool) {
	for _, i := range k.Perm(len(l)) {
		var args []api.Type
		is := l[i].Type
		for !sameType(is, t) && is.Kind == api.TyFun {
			args, is = append(args, is.Args[0]), is.Args[1]
		}
		if sameType(is, t) && (deep > 0 || len(args) == 0) {
			e := api.Expr{Kind: api.ExprVar, Name: l[i].Name}
			for _, a := range args {
				e = call(e, k.expr(a, l, deep-1))
			}
			return e, true
		}
	}
	return api.Expr{}, false
}

// leaf makes a small value, if there is one.
func (k *maker) leaf(t api.Type, l []api.Bind, deep int) api.Expr {
	if k.Intn(1+k.luck/10) > 0 && deep > 0 {
		switch t.Kind {
		case api.TyInt:
			return number(pick(k.Rand, 0, 1, 2, 3, -1, 5, api.MinInt, api.MaxInt))
		case api.TyFun:
			if e, ok := k.global(t, l, 0); ok {
				return e
			}
		case api.TyData:
			return k.con(t, func(t api.Type) api.Expr { return k.leaf(t, l, deep-1) })
		}
	}
	return k.stuck(t)
}

func (k *maker) stuck(t api.Type) api.Expr {
	return api.Expr{Kind: api.ExprFail, Num: 1 + k.Intn(4), Types: []api.Type{t}}
}

func (k *maker) data(name string) api.Data {
	return k.datas[slices.IndexFunc(k.datas, func(d api.Data) bool { return d.Name == name })]
}

// con makes something of a data type.
func (k *maker) con(t api.Type, field func(api.Type) api.Expr) api.Expr {
	d := k.data(t.Name)
	c := d.Cons[k.Intn(len(d.Cons))]
	e := api.Expr{Kind: api.ExprCon, Name: c.Name, Types: t.Args}
	for _, f := range c.Fields {
		e = call(e, field(replaced(d.Params, t.Args, f)))
	}
	return e
}

// own makes an expression that only something of that type can be.
func (k *maker) own(t api.Type, l []api.Bind, deep int) api.Expr {
	op := func(names ...string) api.Expr {
		return api.Expr{Kind: api.ExprOp, Name: pick(k.Rand, names...), Args: []api.Expr{k.expr(integer, l, deep), k.expr(integer, l, deep)}}
	}
	switch {
	case t.Kind == api.TyFun:
		return k.short(t, l, deep)
	case t.Kind == api.TyInt:
		return op("+", "-", "*", "+", "-", "/", "%")
	case t.Name == "Bool" && k.Intn(3) > 0:
		return op("==", "/=", "<", "<=", ">", ">=")
	}
	return k.con(t, func(t api.Type) api.Expr { return k.expr(t, l, deep) })
}

// short makes a constructor that lacks fields, or a definition that lacks arguments, if there is one.
func (k *maker) short(t api.Type, l []api.Bind, deep int) api.Expr {
	end := t
	for end.Kind == api.TyFun {
		end = end.Args[1]
	}
	if end.Kind == api.TyData && k.Intn(3) > 0 {
		d := k.data(end.Name)
		for _, i := range k.Perm(len(d.Cons)) {
			e, is := api.Expr{Kind: api.ExprCon, Name: d.Cons[i].Name, Types: end.Args}, end
			for _, f := range slices.Backward(d.Cons[i].Fields) {
				is = function(replaced(d.Params, end.Args, f), is)
			}
			for !sameType(is, t) && is.Kind == api.TyFun {
				e, is = call(e, k.expr(is.Args[0], l, deep)), is.Args[1]
			}
			if sameType(is, t) {
				return e
			}
		}
	}
	if e, ok := k.global(t, l, deep); ok {
		return e
	}
	return k.leaf(t, l, 2)
}

// lets makes an ExprLet; most Values need only those ahead, or too many would need themselves.
func (k *maker) lets(t api.Type, l []api.Bind, deep int) api.Expr {
	e := api.Expr{Kind: api.ExprLet}
	for range 1 + k.Intn(3) {
		e.Binds = append(e.Binds, k.local(pick(k.Rand, k.typ(), t, typ(list))))
	}
	all := with(l, e.Binds...)
	for i, b := range e.Binds {
		known := all
		if k.Intn(4) > 0 {
			known = pick(k.Rand, l, all[:len(l)+i])
		}
		e.Binds[i].Value = k.expr(b.Type, known, deep)
	}
	e.Args = []api.Expr{k.expr(t, all, deep)}
	return e
}

func (k *maker) cases(t api.Type, l []api.Bind, deep int) api.Expr {
	of := k.typ()
	for of.Kind == api.TyFun || k.Intn(3) == 0 {
		of = pick(k.Rand, integer, typ("Bool"), typ(list), k.typ())
	}
	e := api.Expr{Kind: api.ExprCase, Args: []api.Expr{k.expr(of, l, deep)}}
	whole := false
	if of.Kind == api.TyInt {
		for _, i := range k.Perm(3)[:k.Intn(4)] {
			e.Alts = append(e.Alts, api.Alt{Kind: api.AltInt, Num: i, Body: k.expr(t, l, deep)})
		}
	} else {
		d := k.data(of.Name)
		cons := k.Perm(len(d.Cons))[:max(k.Intn(1+len(d.Cons)), k.Intn(1+len(d.Cons)))]
		whole = len(cons) == len(d.Cons)
		for _, i := range cons {
			a, inner := api.Alt{Kind: api.AltCon, Con: d.Cons[i].Name}, l
			for _, f := range d.Cons[i].Fields {
				b := k.local(replaced(d.Params, of.Args, f))
				a.Vars, inner = append(a.Vars, b.Name), with(inner, b)
			}
			a.Body = k.expr(t, inner, deep)
			e.Alts = append(e.Alts, a)
		}
	}
	if len(e.Alts) == 0 || k.Intn(8) == 0 || !whole && k.Intn(8) > 0 {
		e.Alts = append(e.Alts, api.Alt{Kind: api.AltElse, Body: k.expr(t, l, deep)})
	}
	return e
}

// global makes a definition applied to so many things that it is of that type, if there is one.
func (k *maker) global(t api.Type, l []api.Bind, deep int) (api.Expr, bool) {
	known := k.Defs[:k.def]
	if k.Intn(k.ring) > 0 {
		known = k.Defs
	}
	for _, i := range k.Perm(len(known)) {
		if known[i].Name == "loop" && k.Intn(8) > 0 {
			continue
		}
		e, is := api.Expr{Kind: api.ExprGlobal, Name: known[i].Name}, known[i].Type
		var args []api.Type
		for !sameType(is, t) && is.Kind == api.TyFun {
			args, is = append(args, is.Args[0]), is.Args[1]
		}
		if sameType(is, t) && (deep > 0 || len(args) == 0) && k.Intn(4) > 0 {
			for _, a := range args {
				e = call(e, k.expr(a, l, deep))
			}
			return e, true
		}
	}
	return api.Expr{}, false
}
