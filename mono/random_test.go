package mono_test

import (
	"fmt"
	"math/rand"
	"slices"
	"testing"

	"sloth/api"
	"sloth/builtin"
	"sloth/core"
	"sloth/types"
)

// library is what all programs made at random have: data types, and definitions that these may use.
const library = `
(data M.T (a b) ("M.L") ("M.N" (M.T a b) a (M.T b a)) ("M.B" b))
(data M.F (a) ("M.F" (a -> a) a Int))
(data M.E () ("M.R") ("M.G") ("M.I" Int M.E))
(def "id" (a) (a -> a) (lam "x" a "x"))
(def "k" (a b) (a -> (b -> a)) (lam "x" a (lam "y" b "x")))
(def "dot" (a b c) ((b -> c) -> ((a -> b) -> (a -> c))) (lam "f" (b -> c) (lam "g" (a -> b) (lam "x" a (app "f" (app "g" "x"))))))
(def "fix" (a) ((a -> a) -> a) (lam "f" (a -> a) (let (("x" a (app "f" "x"))) "x")))
(def "swap" (a b) ((Pair a b) -> (Pair b a)) (lam "p" (Pair a b) (case "p" (con "Pair" ("x" "y") (app (app (con "Pair" b a) "y") "x")))))
(def "twice" (b) ((b -> b) -> (b -> b)) (lam "f" (b -> b) (app (app (global "dot" b b b) "f") "f")))
(def "single" (a) (a -> (List a)) (lam "x" a (app (app (con "Cons" a) "x") (con "Nil" a))))
(def "map" (a b) ((a -> b) -> ((List a) -> (List b))) (lam "f" (a -> b) (lam "l" (List a) (case "l" (con "Nil" () (con "Nil" b)) (con "Cons" ("x" "t") (app (app (con "Cons" b) (app "f" "x")) (app (app (global "map" a b) "f") "t")))))))
(def "fold" (a b) ((a -> (b -> b)) -> (b -> ((List a) -> b))) (lam "f" (a -> (b -> b)) (lam "z" b (lam "l" (List a) (case "l" (con "Cons" ("x" "t") (app (app "f" "x") (app (app (app (global "fold" a b) "f") "z") "t"))) (else "z"))))))
(def "append" (a) ((List a) -> ((List a) -> (List a))) (lam "k" (List a) (lam "l" (List a) (app (app (app (global "fold" a (List a)) (con "Cons" a)) "l") "k"))))
(def "flat" (c) ((List (List c)) -> (List c)) (app (app (global "fold" (List c) (List c)) (global "append" c)) (con "Nil" c)))
(def "back" (a) ((List a) -> (List a)) (lam "l" (List a) (case "l" (con "Nil" () "l") (con "Cons" ("x" "t") (app (app (global "append" a) (app (global "back" a) "t")) (app (global "single" a) "x"))))))
(def "take" (a) (Int -> ((List a) -> (List a))) (lam "n" Int (lam "l" (List a) (case (op <= "n" 0) (con "True" () (con "Nil" a)) (else (case "l" (con "Nil" () "l") (con "Cons" ("x" "t") (app (app (con "Cons" a) "x") (app (app (global "take" a) (op - "n" 1)) "t")))))))))
(def "leaves" (a b) ((M.T a b) -> (Pair (List a) (List b))) (lam "t" (M.T a b) (case "t" (con "M.L" () (app (app (con "Pair" (List a) (List b)) (con "Nil" a)) (con "Nil" b))) (con "M.B" ("y") (app (app (con "Pair" (List a) (List b)) (con "Nil" a)) (app (global "single" b) "y")))
	(con "M.N" ("l" "x" "r") (case (app (global "swap" (List b) (List a)) (app (global "leaves" b a) "r")) (con "Pair" ("p" "q") (app (app (con "Pair" (List a) (List b)) (app (app (con "Cons" a) "x") "p")) "q")))))))
(def "from" () (Int -> (List Int)) (lam "n" Int (app (app (con "Cons" Int) "n") (app (global "from") (op + "n" 1)))))
(def "sum" () ((List Int) -> Int) (lam "l" (List Int) (app (app (app (global "fold" Int Int) (lam "x" Int (lam "s" Int (op + "x" "s")))) 0) "l")))
`

// maker makes right programs at random, whose definitions m0, m1 and so on are entries.
type maker struct {
	*rand.Rand
	api.Program
	datas []api.Data // with the built-in ones
	def   int        // the definition that is being made
	names int        // how many locals it has so far
	luck  int        // one leaf of so many is stuck
}

func pick[T any](r *rand.Rand, l ...T) T { return l[r.Intn(len(l))] }

// many hands on makers, till something fails.
func many(t *testing.T, seed int64, times int, do func(*maker)) {
	t.Helper()
	r := rand.New(rand.NewSource(seed))
	for range times {
		k := newMaker(r)
		if code := core.Check(k.Program); code != api.OK {
			t.Fatal("the maker is wrong:", code)
		}
		if do(k); t.Failed() {
			return
		}
	}
}

func newMaker(r *rand.Rand) *maker {
	p, code := core.Read(library)
	if code != api.OK {
		panic(code)
	}
	k := &maker{Rand: r, Program: p, datas: append(builtin.Datas(), p.Datas...), luck: pick(r, 40, 20, 4)}
	library := len(k.Defs)
	for i := range 1 + r.Intn(5) {
		params := pick(r, []string{}, []string{"a"}, []string{"b", "a"}, []string{"x", "a", "y"})
		k.Defs = append(k.Defs, api.Def{Name: fmt.Sprint("f", i), Params: params, Type: k.typ(params, 3)})
	}
	for i := range 1 + r.Intn(3) {
		t := typ(pick(r, "Int", "Bool", "(List Int)", "(List Int)", "(Pair Int (List Bool))", "(M.T Int Bool)", "M.E", "(List (List Int))", "(Triple Int Unit M.E)", "(List (M.T Int Int))"))
		if r.Intn(2) == 0 {
			t = api.Type{Kind: api.TyFun, Args: []api.Type{typ("(List Int)"), t}}
		}
		k.Defs = append(k.Defs, api.Def{Name: fmt.Sprint("m", i), Type: t})
	}
	for i := library; i < len(k.Defs); i++ {
		k.def, k.names = i, 0
		k.Defs[i].Body = k.expr(k.Defs[i].Type, nil, 2+r.Intn(4))
	}
	r.Shuffle(len(k.Defs), func(i, j int) { k.Defs[i], k.Defs[j] = k.Defs[j], k.Defs[i] })
	return k
}

// entries tells which definitions may be run.
func (k *maker) entries() []string {
	l := []string{"sum"}
	for _, d := range k.Defs {
		if d.Name[0] == 'm' && d.Name != "map" {
			l = append(l, d.Name)
		}
	}
	return l
}

// allNames tells the names of all definitions.
func (k *maker) allNames() []string {
	l := make([]string, len(k.Defs))
	for i, d := range k.Defs {
		l[i] = d.Name
	}
	return l
}

func (k *maker) input() []int {
	l := make([]int, k.Intn(6))
	for i := range l {
		l[i] = pick(k.Rand, 0, 1, 2, -1, 5, api.MinInt, api.MaxInt)
	}
	return l
}

func (k *maker) local(t api.Type) api.Bind {
	k.names++
	return api.Bind{Name: fmt.Sprint("x", k.names), Type: t}
}

// typ makes a type, some levels deep, with variables of these.
func (k *maker) typ(params []string, deep int) api.Type {
	switch n := k.Intn(6); {
	case len(params) > 0 && n < 2:
		return api.Type{Kind: api.TyVar, Name: params[k.Intn(len(params))]}
	case deep == 0 || n < 3:
		return pick(k.Rand, integer, typ("Bool"), typ("(List Int)"))
	case n == 3:
		return api.Type{Kind: api.TyFun, Args: []api.Type{k.typ(params, deep-1), k.typ(params, deep-1)}}
	}
	d := k.datas[k.Intn(len(k.datas))]
	t := api.Type{Kind: api.TyData, Name: d.Name}
	for range d.Params {
		t.Args = append(t.Args, k.typ(params, deep-1))
	}
	return t
}

func (k *maker) someType() api.Type { return k.typ(k.Defs[k.def].Params, 1) }

func with(l []api.Bind, b ...api.Bind) []api.Bind { return append(append([]api.Bind{}, l...), b...) }

func app(f api.Expr, args ...api.Expr) api.Expr {
	for _, x := range args {
		f = api.Expr{Kind: api.ExprApp, Args: []api.Expr{f, x}}
	}
	return f
}

// expr makes an expression of that type, where these locals are known.
func (k *maker) expr(t api.Type, l []api.Bind, deep int) api.Expr {
	if e, ok := k.spoken(t, l, deep); ok {
		return e
	}
	if deep <= 0 {
		return k.leaf(t, 2)
	}
	deep--
	switch k.Intn(12) {
	case 0, 1:
		return k.lets(t, l, deep)
	case 2:
		b := k.local(k.someType())
		b.Value = k.expr(b.Type, l, deep)
		return api.Expr{Kind: api.ExprHard, Binds: []api.Bind{b}, Args: []api.Expr{k.expr(t, with(l, b), deep)}}
	case 3:
		return api.Expr{Kind: api.ExprSeq, Args: []api.Expr{k.expr(k.someType(), l, deep), k.expr(t, l, deep)}}
	case 4:
		of := k.someType()
		return app(k.expr(api.Type{Kind: api.TyFun, Args: []api.Type{of, t}}, l, deep), k.expr(of, l, deep))
	case 5:
		return k.cases(t, l, deep)
	case 6, 7, 8, 9, 10:
		if e, ok := k.global(t, l, deep); ok {
			return e
		}
	}
	return k.own(t, l, deep)
}

// spoken makes a local applied to so many things that it is of that type, if there is one.
func (k *maker) spoken(t api.Type, l []api.Bind, deep int) (api.Expr, bool) {
	for _, i := range k.Perm(len(l)) {
		e, is := api.Expr{Kind: api.ExprVar, Name: l[i].Name}, l[i].Type
		for k.Intn(3) > 0 {
			if sameType(is, t) {
				return e, true
			}
			if is.Kind != api.TyFun || deep <= 0 {
				break
			}
			e, is = app(e, k.expr(is.Args[0], l, deep-1)), is.Args[1]
		}
	}
	return api.Expr{}, false
}

// leaf makes a small value, if there is one.
func (k *maker) leaf(t api.Type, deep int) api.Expr {
	if k.Intn(k.luck) > 0 && deep > 0 {
		switch t.Kind {
		case api.TyInt:
			return number(pick(k.Rand, 0, 1, 2, 3, -1, 5, api.MinInt, api.MaxInt))
		case api.TyFun:
			b := k.local(t.Args[0])
			if sameType(t.Args[0], t.Args[1]) {
				return api.Expr{Kind: api.ExprLam, Binds: []api.Bind{b}, Args: []api.Expr{{Kind: api.ExprVar, Name: b.Name}}}
			}
			return api.Expr{Kind: api.ExprLam, Binds: []api.Bind{b}, Args: []api.Expr{k.leaf(t.Args[1], deep)}}
		case api.TyData:
			d := k.data(t.Name)
			c := d.Cons[k.Intn(len(d.Cons))]
			e := api.Expr{Kind: api.ExprCon, Name: c.Name, Types: t.Args}
			for _, f := range c.Fields {
				e = app(e, k.leaf(replaced(d.Params, t.Args, f), deep-1))
			}
			return e
		}
	}
	return api.Expr{Kind: api.ExprFail, Num: 1 + k.Intn(4), Types: []api.Type{t}}
}

func (k *maker) data(name string) api.Data {
	return k.datas[slices.IndexFunc(k.datas, func(d api.Data) bool { return d.Name == name })]
}

// own makes an expression that only something of that type can be.
func (k *maker) own(t api.Type, l []api.Bind, deep int) api.Expr {
	op := func(names ...string) api.Expr {
		return api.Expr{Kind: api.ExprOp, Name: pick(k.Rand, names...), Args: []api.Expr{k.expr(integer, l, deep), k.expr(integer, l, deep)}}
	}
	switch {
	case t.Kind == api.TyFun:
		b := k.local(t.Args[0])
		return api.Expr{Kind: api.ExprLam, Binds: []api.Bind{b}, Args: []api.Expr{k.expr(t.Args[1], with(l, b), deep)}}
	case t.Kind == api.TyInt:
		return op("+", "-", "*", "/", "%")
	case t.Kind == api.TyVar:
		return k.leaf(t, 1)
	case t.Name == "Bool" && k.Intn(3) > 0:
		return op("==", "/=", "<", "<=", ">", ">=")
	}
	d := k.data(t.Name)
	c := d.Cons[k.Intn(len(d.Cons))]
	e := api.Expr{Kind: api.ExprCon, Name: c.Name, Types: t.Args}
	for _, f := range c.Fields {
		e = app(e, k.expr(replaced(d.Params, t.Args, f), l, deep))
	}
	return e
}

func (k *maker) lets(t api.Type, l []api.Bind, deep int) api.Expr {
	e := api.Expr{Kind: api.ExprLet}
	for range 1 + k.Intn(3) {
		e.Binds = append(e.Binds, k.local(pick(k.Rand, k.someType(), t)))
	}
	all := with(l, e.Binds...)
	for i, b := range e.Binds {
		known := all
		if k.Intn(4) > 0 { // most need only those ahead, or too many would need themselves
			known = all[:len(l)+i]
		}
		e.Binds[i].Value = k.expr(b.Type, known, deep)
	}
	e.Args = []api.Expr{k.expr(t, all, deep)}
	return e
}

func (k *maker) cases(t api.Type, l []api.Bind, deep int) api.Expr {
	of := k.someType()
	for of.Kind != api.TyInt && of.Kind != api.TyData {
		of = pick(k.Rand, integer, typ("Bool"), typ("(List Int)"), k.someType())
	}
	e := api.Expr{Kind: api.ExprCase, Args: []api.Expr{k.expr(of, l, deep)}}
	whole := false
	if of.Kind == api.TyInt {
		for _, i := range k.Perm(4)[:k.Intn(4)] {
			e.Alts = append(e.Alts, api.Alt{Kind: api.AltInt, Num: []int{-1, 0, 5, api.MaxInt}[i], Body: k.expr(t, l, deep)})
		}
	} else {
		d := k.data(of.Name)
		cons := k.Perm(len(d.Cons))[:max(k.Intn(1+len(d.Cons)), k.Intn(1+len(d.Cons)))]
		whole = len(cons) == len(d.Cons)
		for _, i := range cons {
			a, inner := api.Alt{Kind: api.AltCon, Con: d.Cons[i].Name}, l
			for _, f := range d.Cons[i].Fields {
				b := k.local(replaced(d.Params, of.Args, f))
				a.Vars, inner = append(a.Vars, b.Name), with(inner, b)
			}
			a.Body = k.expr(t, inner, deep)
			e.Alts = append(e.Alts, a)
		}
	}
	if len(e.Alts) == 0 || k.Intn(8) == 0 || !whole && k.Intn(6) > 0 {
		e.Alts = append(e.Alts, api.Alt{Kind: api.AltElse, Body: k.expr(t, l, deep)})
	}
	return e
}

// global makes a definition applied to so many things that it is of that type, if there is one.
func (k *maker) global(t api.Type, l []api.Bind, deep int) (api.Expr, bool) {
	known := k.Defs
	if k.Intn(8) > 0 { // as of a let
		known = k.Defs[:k.def]
	}
	for _, i := range k.Perm(len(known)) {
		d := known[i]
		args := 0
		for u := d.Type; ; u = u.Args[1] {
			if e, ok := k.applied(d, u, t, args, l, deep); ok && k.Intn(3) > 0 {
				return e, true
			}
			if u.Kind != api.TyFun {
				break
			}
			args++
		}
	}
	return api.Expr{}, false
}

func (k *maker) applied(d api.Def, u, t api.Type, args int, l []api.Bind, deep int) (api.Expr, bool) {
	bounds, ok, code := types.Instance(u, t)
	if !ok || code != api.OK || nodes(t) > 20 {
		return api.Expr{}, false
	}
	e := api.Expr{Kind: api.ExprGlobal, Name: d.Name}
	for _, name := range d.Params {
		is := k.someType()
		for _, b := range bounds {
			if b.Name == name {
				is = b.Type
			}
		}
		e.Types = append(e.Types, is)
	}
	is := replaced(d.Params, e.Types, d.Type)
	for range args {
		e = app(e, k.expr(is.Args[0], l, deep))
		is = is.Args[1]
	}
	return e, true
}
