package lift_test

import (
	"fmt"
	"math/rand"
	"slices"
	"testing"

	"sloth/api"
	"sloth/builtin"
	"sloth/core"
)

// library is what all programs made at random have: data types, and definitions that these may use; with inner functions, and without.
const library = `
(data M.T (a b) ("M.L") ("M.N" (M.T a b) a (M.T b a)) ("M.B" b))
(data M.F (a) ("M.F" (a -> a) a Int))
(data M.E () ("M.R") ("M.G") ("M.I" Int M.E))
(def "map" () ((Int -> Int) -> ((List Int) -> (List Int))) (lam "f" (Int -> Int) (let (("go" ((List Int) -> (List Int)) (lam "l" (List Int) (case "l" (con "Nil" () "l") (con "Cons" ("x" "t") (app (app (con "Cons" Int) (app "f" "x")) (app "go" "t"))))))) "go")))
(def "fold" () ((Int -> (Int -> Int)) -> (Int -> ((List Int) -> Int))) (lam "f" (Int -> (Int -> Int)) (lam "z" Int (lam "l" (List Int) (let (("go" ((List Int) -> Int) (lam "k" (List Int) (case "k" (con "Cons" ("x" "t") (app (app "f" "x") (app "go" "t"))) (else "z"))))) (app "go" "l"))))))
(def "sum" () ((List Int) -> Int) (app (app (global "fold") (lam "x" Int (lam "s" Int (op + "x" "s")))) 0))
(def "from" () (Int -> (List Int)) (lam "n" Int (app (app (con "Cons" Int) "n") (app (global "from") (op + "n" 1)))))
(def "take" () (Int -> ((List Int) -> (List Int))) (lam "n" Int (lam "l" (List Int) (case (op <= "n" 0) (con "True" () (con "Nil" Int)) (else (case "l" (con "Nil" () "l") (con "Cons" ("x" "t") (app (app (con "Cons" Int) "x") (app (app (global "take") (op - "n" 1)) "t")))))))))
(def "even" () (Int -> Bool) (lam "m" Int (let (("e" (Int -> Bool) (lam "n" Int (case "n" (int 0 (con "True")) (else (app "o" (op - "n" 1)))))) ("o" (Int -> Bool) (lam "k" Int (case "k" (int 0 (con "False")) (else (app "e" (op - "k" 1))))))) (app "e" (case (op < "m" 0) (con "True" () (op - 0 "m")) (else "m"))))))
(def "twice" () ((Int -> Int) -> (Int -> Int)) (lam "f" (Int -> Int) (lam "x" Int (app "f" (app "f" "x")))))
(def "pair" () (Int -> (Pair (Int -> Int) (Int -> Int))) (lam "n" Int (app (app (con "Pair" (Int -> Int) (Int -> Int)) (lam "x" Int (op + "x" "n"))) (lam "y" Int (op * "n" "y")))))
`

// maker makes right programs at random, without type parameters, whose definitions m0, m1 and so on are entries.
type maker struct {
	*rand.Rand
	api.Program
	datas []api.Data // with the built-in ones
	def   int        // the definition that is being made
	names int        // how many locals it has so far
	luck  int        // one leaf of so many is stuck
	wide  int        // how many Binds an ExprLet has at most
}

func pick[T any](r *rand.Rand, l ...T) T { return l[r.Intn(len(l))] }

// many hands on makers, till something fails.
func many(t *testing.T, seed int64, times int, do func(*maker)) {
	t.Helper()
	r := rand.New(rand.NewSource(seed))
	for range times {
		k := newMaker(r)
		if code := core.Check(k.Program); code != api.OK {
			t.Fatal("the maker is wrong:", code)
		}
		if do(k); t.Failed() {
			return
		}
	}
}

func newMaker(r *rand.Rand) *maker {
	p, code := core.Read(library)
	if code != api.OK {
		panic(code)
	}
	k := &maker{Rand: r, Program: p, datas: append(builtin.Datas(), p.Datas...), luck: pick(r, 60, 30, 6), wide: pick(r, 2, 3, 5)}
	library := len(k.Defs)
	for i := range 1 + r.Intn(4) {
		k.Defs = append(k.Defs, api.Def{Name: fmt.Sprint("f", i), Type: k.typ(3)})
	}
	for i := range 1 + r.Intn(3) {
		t := typ(pick(r, "Int", "Bool", "(List Int)", "(List Int)", "(Pair Int (List Bool))", "(M.T Int Bool)", "M.E", "(List (List Int))", "(Triple Int Unit M.E)", "(List (M.T Int Int))"))
		if r.Intn(2) == 0 {
			t = function(typ("(List Int)"), t)
		}
		k.Defs = append(k.Defs, api.Def{Name: fmt.Sprint("m", i), Type: t})
	}
	for i := library; i < len(k.Defs); i++ {
		k.def, k.names = i, 0
		k.Defs[i].Body = k.expr(k.Defs[i].Type, nil, 2+r.Intn(4))
	}
	r.Shuffle(len(k.Defs), func(i, j int) { k.Defs[i], k.Defs[j] = k.Defs[j], k.Defs[i] })
	return k
}

// entries tells which definitions may be run.
func (k *maker) entries() []string {
	l := []string{"sum"}
	for _, d := range k.Defs {
		if d.Name[0] == 'm' && d.Name != "map" {
			l = append(l, d.Name)
		}
	}
	return l
}

func (k *maker) input() []int {
	l := make([]int, k.Intn(6))
	for i := range l {
		l[i] = pick(k.Rand, 0, 1, 2, -1, 5, api.MinInt, api.MaxInt)
	}
	return l
}

func (k *maker) local(t api.Type) api.Bind {
	k.names++
	return api.Bind{Name: fmt.Sprint("x", k.names), Type: t}
}

func function(from, to api.Type) api.Type {
	return api.Type{Kind: api.TyFun, Args: []api.Type{from, to}}
}

// typ makes a type, some levels deep.
func (k *maker) typ(deep int) api.Type {
	switch n := k.Intn(7); {
	case deep == 0 || n < 2:
		return pick(k.Rand, integer, integer, typ("Bool"), typ("(List Int)"))
	case n < 5:
		return function(k.typ(deep-1), k.typ(deep-1))
	}
	d := k.datas[k.Intn(len(k.datas))]
	t := api.Type{Kind: api.TyData, Name: d.Name}
	for range d.Params {
		t.Args = append(t.Args, k.typ(deep-1))
	}
	return t
}

// expr makes an expression of that type, where these locals are known.
func (k *maker) expr(t api.Type, l []api.Bind, deep int) api.Expr {
	if e, ok := k.spoken(t, l, deep); ok {
		return e
	}
	if deep <= 0 {
		return k.leaf(t, 2)
	}
	deep--
	switch k.Intn(12) {
	case 0, 1, 2:
		return k.lets(t, l, deep)
	case 3:
		return api.Expr{Kind: api.ExprSeq, Args: []api.Expr{k.expr(k.typ(1), l, deep), k.expr(t, l, deep)}}
	case 4, 5:
		of := k.typ(1)
		return app(k.expr(function(of, t), l, deep), k.expr(of, l, deep))
	case 6:
		return k.cases(t, l, deep)
	case 7, 8, 9:
		if e, ok := k.global(t, l, deep); ok {
			return e
		}
	}
	return k.own(t, l, deep)
}

// spoken makes a local applied to so many things that it is of that type, if there is one.
func (k *maker) spoken(t api.Type, l []api.Bind, deep int) (api.Expr, bool) {
	for _, i := range k.Perm(len(l)) {
		e, is := api.Expr{Kind: api.ExprVar, Name: l[i].Name}, l[i].Type
		for k.Intn(3) > 0 {
			if sameType(is, t) {
				return e, true
			}
			if is.Kind != api.TyFun || deep <= 0 {
				break
			}
			e, is = app(e, k.expr(is.Args[0], l, deep-1)), is.Args[1]
		}
	}
	return api.Expr{}, false
}

// leaf makes a small value, if there is one.
func (k *maker) leaf(t api.Type, deep int) api.Expr {
	if k.Intn(k.luck) > 0 && deep > 0 {
		switch t.Kind {
		case api.TyInt:
			return number(pick(k.Rand, 0, 1, 2, 3, -1, 5, api.MinInt, api.MaxInt))
		case api.TyFun:
			b := k.local(t.Args[0])
			if sameType(t.Args[0], t.Args[1]) {
				return api.Expr{Kind: api.ExprLam, Binds: []api.Bind{b}, Args: []api.Expr{{Kind: api.ExprVar, Name: b.Name}}}
			}
			return api.Expr{Kind: api.ExprLam, Binds: []api.Bind{b}, Args: []api.Expr{k.leaf(t.Args[1], deep)}}
		case api.TyData:
			d := k.data(t.Name)
			c := d.Cons[k.Intn(len(d.Cons))]
			e := api.Expr{Kind: api.ExprCon, Name: c.Name, Types: t.Args}
			for _, f := range c.Fields {
				e = app(e, k.leaf(replaced(d.Params, t.Args, f), deep-1))
			}
			return e
		}
	}
	return api.Expr{Kind: api.ExprFail, Num: 1 + k.Intn(4), Types: []api.Type{t}}
}

func (k *maker) data(name string) api.Data {
	return k.datas[slices.IndexFunc(k.datas, func(d api.Data) bool { return d.Name == name })]
}

// own makes an expression that only something of that type can be.
func (k *maker) own(t api.Type, l []api.Bind, deep int) api.Expr {
	op := func(names ...string) api.Expr {
		return api.Expr{Kind: api.ExprOp, Name: pick(k.Rand, names...), Args: []api.Expr{k.expr(integer, l, deep), k.expr(integer, l, deep)}}
	}
	switch {
	case t.Kind == api.TyFun:
		b := k.local(t.Args[0])
		return api.Expr{Kind: api.ExprLam, Binds: []api.Bind{b}, Args: []api.Expr{k.expr(t.Args[1], with(l, b), deep)}}
	case t.Kind == api.TyInt:
		return op("+", "-", "*", "/", "%")
	case t.Name == "Bool" && k.Intn(3) > 0:
		return op("==", "/=", "<", "<=", ">", ">=")
	}
	d := k.data(t.Name)
	c := d.Cons[k.Intn(len(d.Cons))]
	e := api.Expr{Kind: api.ExprCon, Name: c.Name, Types: t.Args}
	for _, f := range c.Fields {
		e = app(e, k.expr(replaced(d.Params, t.Args, f), l, deep))
	}
	return e
}

// lets makes an ExprLet, many of whose Binds are functions that may need all; most others need only those ahead, or too many would need themselves.
func (k *maker) lets(t api.Type, l []api.Bind, deep int) api.Expr {
	e := api.Expr{Kind: api.ExprLet}
	for range 1 + k.Intn(k.wide) {
		e.Binds = append(e.Binds, k.local(pick(k.Rand, k.typ(1), t, typ("(Int -> Int)"), function(k.typ(1), t))))
	}
	all := with(l, e.Binds...)
	for i, b := range e.Binds {
		if b.Type.Kind == api.TyFun && k.Intn(3) > 0 {
			e.Binds[i].Value = k.own(b.Type, all, deep)
			continue
		}
		known := all
		if k.Intn(4) > 0 {
			known = all[:len(l)+i]
		}
		e.Binds[i].Value = k.expr(b.Type, known, deep)
	}
	e.Args = []api.Expr{k.expr(t, all, deep)}
	return e
}

func (k *maker) cases(t api.Type, l []api.Bind, deep int) api.Expr {
	of := k.typ(1)
	for of.Kind == api.TyFun {
		of = pick(k.Rand, integer, typ("Bool"), typ("(List Int)"), k.typ(1))
	}
	e := api.Expr{Kind: api.ExprCase, Args: []api.Expr{k.expr(of, l, deep)}}
	whole := false
	if of.Kind == api.TyInt {
		for _, i := range k.Perm(4)[:k.Intn(4)] {
			e.Alts = append(e.Alts, api.Alt{Kind: api.AltInt, Num: []int{-1, 0, 5, api.MaxInt}[i], Body: k.expr(t, l, deep)})
		}
	} else {
		d := k.data(of.Name)
		cons := k.Perm(len(d.Cons))[:max(k.Intn(1+len(d.Cons)), k.Intn(1+len(d.Cons)))]
		whole = len(cons) == len(d.Cons)
		for _, i := range cons {
			a, inner := api.Alt{Kind: api.AltCon, Con: d.Cons[i].Name}, l
			for _, f := range d.Cons[i].Fields {
				b := k.local(replaced(d.Params, of.Args, f))
				a.Vars, inner = append(a.Vars, b.Name), with(inner, b)
			}
			a.Body = k.expr(t, inner, deep)
			e.Alts = append(e.Alts, a)
		}
	}
	if len(e.Alts) == 0 || k.Intn(8) == 0 || !whole && k.Intn(6) > 0 {
		e.Alts = append(e.Alts, api.Alt{Kind: api.AltElse, Body: k.expr(t, l, deep)})
	}
	return e
}

// global makes a definition applied to so many things that it is of that type, if there is one.
func (k *maker) global(t api.Type, l []api.Bind, deep int) (api.Expr, bool) {
	known := k.Defs
	if k.Intn(8) > 0 { // as of a let
		known = k.Defs[:k.def]
	}
	for _, i := range k.Perm(len(known)) {
		e, is := api.Expr{Kind: api.ExprGlobal, Name: known[i].Name}, known[i].Type
		var args []api.Type
		for !sameType(is, t) && is.Kind == api.TyFun {
			args, is = append(args, is.Args[0]), is.Args[1]
		}
		if sameType(is, t) && k.Intn(3) > 0 {
			for _, a := range args {
				e = app(e, k.expr(a, l, deep))
			}
			return e, true
		}
	}
	return api.Expr{}, false
}

// crowd makes a definition of numbers and functions of numbers alone, whose inner functions speak of many locals and of one another.
type crowd struct {
	*rand.Rand
	names int
	speak int // how many locals a leaf speaks of
	deep  int // how many levels there are at most
}

func newCrowd(r *rand.Rand) api.Program {
	var p api.Program
	for i := range 1 + r.Intn(3) {
		c := &crowd{Rand: r, speak: 1 + r.Intn(pick(r, 4, 12)), deep: 3 + r.Intn(4)}
		d := api.Def{Name: fmt.Sprint("m", i), Type: integer}
		var l []api.Bind
		for range r.Intn(pick(r, 4, 8, 24)) {
			l = append(l, c.local(integer))
			d.Type = function(integer, d.Type)
		}
		d.Body = c.expr(l, c.deep)
		for _, b := range slices.Backward(l) {
			d.Body = lambda(b, d.Body)
		}
		p.Defs = append(p.Defs, d)
	}
	for _, name := range []string{"m0$2", "m0$3", "m1$1", "m0$10", "m0$1$1", "m$1", "m0$", "m0$02"}[r.Intn(8):] {
		p.Defs = append(p.Defs, api.Def{Name: name, Type: integer, Body: number(7)})
	}
	r.Shuffle(len(p.Defs), func(i, j int) { p.Defs[i], p.Defs[j] = p.Defs[j], p.Defs[i] })
	return p
}

func lambda(b api.Bind, body api.Expr) api.Expr {
	return api.Expr{Kind: api.ExprLam, Binds: []api.Bind{b}, Args: []api.Expr{body}}
}

func (c *crowd) local(t api.Type) api.Bind {
	c.names++
	return api.Bind{Name: fmt.Sprint("x", c.names), Type: t}
}

func op(name string, a, b api.Expr) api.Expr {
	return api.Expr{Kind: api.ExprOp, Name: name, Args: []api.Expr{a, b}}
}

// leaf is a sum of some locals.
func (c *crowd) leaf(l []api.Bind) api.Expr {
	e := number(c.Intn(5))
	for range c.Intn(1 + c.speak) {
		if len(l) == 0 {
			break
		}
		b := l[c.Intn(len(l))]
		x := api.Expr{Kind: api.ExprVar, Name: b.Name}
		if b.Type.Kind == api.TyFun {
			x = app(x, number(c.Intn(9)))
		}
		e = op(pick(c.Rand, "+", "-", "*"), e, x)
	}
	return e
}

func (c *crowd) expr(l []api.Bind, deep int) api.Expr {
	if deep == 0 {
		return c.leaf(l)
	}
	deep--
	switch c.Intn(9) {
	case 0, 1, 2, 3:
		e := api.Expr{Kind: api.ExprLet}
		for range 1 + c.Intn(4) {
			e.Binds = append(e.Binds, c.local(pick(c.Rand, integer, typ("(Int -> Int)"), typ("(Int -> Int)"))))
		}
		l = with(l, e.Binds...)
		for i := range e.Binds {
			if b := &e.Binds[i]; b.Type.Kind == api.TyFun {
				b.Value = c.function(l, deep)
			} else {
				b.Value = c.expr(l, c.Intn(deep+1))
			}
		}
		e.Args = []api.Expr{c.expr(l, deep)}
		return e
	case 4, 5:
		return app(c.function(l, deep), c.expr(l, c.Intn(deep+1)))
	case 6:
		e := api.Expr{Kind: api.ExprCase, Args: []api.Expr{app(api.Expr{Kind: api.ExprCon, Name: "Triple", Types: []api.Type{integer, typ("(Int -> Int)"), integer}}, c.leaf(l), c.function(l, c.Intn(deep+1)), c.leaf(l))}}
		vars := []api.Bind{c.local(integer), c.local(typ("(Int -> Int)")), c.local(integer)}
		e.Alts = []api.Alt{{Kind: api.AltCon, Con: "Triple", Vars: []string{vars[0].Name, vars[1].Name, vars[2].Name}, Body: c.expr(with(l, vars...), deep)}}
		return e
	case 7:
		return op("+", c.expr(l, c.Intn(deep+1)), c.expr(l, deep))
	}
	return api.Expr{Kind: api.ExprCase, Args: []api.Expr{c.leaf(l)}, Alts: []api.Alt{{Kind: api.AltInt, Num: c.Intn(3), Body: c.expr(l, c.Intn(deep+1))}, {Kind: api.AltElse, Body: c.expr(l, deep)}}}
}

// function makes one of a number, in several forms, of which some are no lambda.
func (c *crowd) function(l []api.Bind, deep int) api.Expr {
	switch n := c.Intn(10); {
	case n == 0:
		for _, i := range c.Perm(len(l)) {
			if l[i].Type.Kind == api.TyFun {
				return api.Expr{Kind: api.ExprVar, Name: l[i].Name}
			}
		}
	case n == 1 && deep > 0:
		return api.Expr{Kind: api.ExprSeq, Args: []api.Expr{c.leaf(l), c.function(l, deep-1)}}
	case n == 2 && deep > 0: // of two arguments, given one
		a, b := c.local(integer), c.local(integer)
		return app(lambda(a, lambda(b, c.expr(with(l, a, b), deep-1))), c.leaf(l))
	}
	b := c.local(integer)
	return lambda(b, c.expr(with(l, b), deep))
}
