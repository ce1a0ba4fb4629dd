package strict_test

import (
	"fmt"
	"math/rand"
	"slices"
	"testing"

	"sloth/api"
)

// byName tells the signatures by the definitions' names; false, if one is not known.
func byName(t *testing.T, p api.Program) (map[string][]int, bool) {
	t.Helper()
	l, all := map[string][]int{}, true
	for _, s := range analysed(t, p) {
		l[s.Name] = s.Args
		all = all && s.Known
	}
	return l, all
}

// checkSame: two programs, of which all definitions are known, have the same signatures where they have the same definitions.
func checkSame(t *testing.T, what string, p, q api.Program) bool {
	t.Helper()
	a, allA := byName(t, p)
	b, allB := byName(t, q)
	if !allA || !allB {
		return false
	}
	for name, args := range a {
		if other, ok := b[name]; ok && !slices.Equal(args, other) {
			t.Fatalf("%s\n%s\n%s\n%s: %v, %v", what, printed(p), printed(q), name, args, other)
		}
	}
	return true
}

// renamed is an expression whose locals are called otherwise.
func renamed(e api.Expr) api.Expr {
	if e.Kind == api.ExprVar {
		e.Name = "a " + e.Name + " more"
	}
	e.Args, e.Binds, e.Alts = slices.Clone(e.Args), slices.Clone(e.Binds), slices.Clone(e.Alts)
	for i, a := range e.Args {
		e.Args[i] = renamed(a)
	}
	for i, b := range e.Binds {
		e.Binds[i] = api.Bind{Name: "a " + b.Name + " more", Type: b.Type, Value: renamed(b.Value)}
	}
	for i, a := range e.Alts {
		e.Alts[i].Vars = nil
		for _, name := range a.Vars {
			e.Alts[i].Vars = append(e.Alts[i].Vars, "a "+name+" more")
		}
		e.Alts[i].Body = renamed(a.Body)
	}
	return e
}

// TestWhatDoesNotMatter: P15.4: a definition more that no other one needs, the order of the definitions, the names of locals.
func TestWhatDoesNotMatter(t *testing.T) {
	t.Parallel()
	met := 0
	many(t, 31, 300, func(k *maker) {
		p := k.Program
		more := p
		k.def, k.names = len(k.Defs), 0
		d := api.Def{Name: "more", Type: function(k.typ(), k.typ())}
		d.Body = k.body(d.Type)
		more.Defs = slices.Insert(slices.Clone(p.Defs), k.Intn(len(p.Defs)+1), d)
		if checkSame(t, "one more", p, more) {
			met++
		}
		order := more
		order.Defs = slices.Clone(more.Defs)
		k.Shuffle(len(order.Defs), func(i, j int) { order.Defs[i], order.Defs[j] = order.Defs[j], order.Defs[i] })
		checkSame(t, "another order", more, order)
		slices.Reverse(order.Defs)
		checkSame(t, "the other way round", more, order)
		called := p
		called.Defs = slices.Clone(p.Defs)
		for i, d := range called.Defs {
			called.Defs[i].Body = renamed(d.Body)
		}
		checkSame(t, "other names", p, called)
	})
	if met < 250 {
		t.Error("too few:", met)
	}
}

// places counts the expressions, but the leading lambdas, that are of no function type.
func places(x *tree, own bool) int {
	n := 0
	if x.typ.Kind != api.TyFun && (!own || x.Kind != api.ExprLam) {
		n++
	}
	own = own && x.Kind == api.ExprLam
	for _, y := range slices.Concat(x.args, x.values, x.bodies) {
		n += places(y, own)
	}
	return n
}

// stuckAt is an expression in which the one at that place is stuck. Places are counted as by places.
func stuckAt(x *tree, own bool, place int) api.Expr {
	e := x.Expr
	if x.typ.Kind != api.TyFun && (!own || x.Kind != api.ExprLam) {
		if place == 0 {
			return api.Expr{Kind: api.ExprFail, Num: 1, Types: []api.Type{x.typ}}
		}
		place--
	}
	own = own && x.Kind == api.ExprLam
	e.Args, e.Binds, e.Alts = slices.Clone(e.Args), slices.Clone(e.Binds), slices.Clone(e.Alts)
	turn := func(e *api.Expr, y *tree) {
		if n := places(y, own); place >= 0 && place < n {
			*e = stuckAt(y, own, place)
			place = -1
		} else {
			place -= n
		}
	}
	for i, y := range x.args {
		turn(&e.Args[i], y)
	}
	for i, y := range x.values {
		turn(&e.Binds[i].Value, y)
	}
	for i, y := range x.bodies {
		turn(&e.Alts[i].Body, y)
	}
	return e
}

// TestLess: P15.5: where an expression gives place to what is stuck no number falls.
func TestLess(t *testing.T) {
	t.Parallel()
	met, risen := 0, 0
	many(t, 41, 250, func(k *maker) {
		trees := newPlain(k.Program).trees
		for range 6 {
			ahead, all := byName(t, k.Program)
			if !all {
				return
			}
			p := k.Program
			p.Defs = slices.Clone(p.Defs)
			d := &p.Defs[k.Intn(len(p.Defs))]
			n := places(trees[d.Name], true)
			if n == 0 {
				continue
			}
			d.Body = stuckAt(trees[d.Name], true, k.Intn(n))
			behind, all := byName(t, p)
			if !all {
				t.Fatal("no longer known:", printed(p))
			}
			met++
			for name, args := range ahead {
				for i, number := range args {
					if behind[name][i] < number {
						t.Fatalf("%s\n%s\n%s: %v, %v", printed(k.Program), printed(p), name, args, behind[name])
					}
					if behind[name][i] > number {
						risen++
					}
				}
			}
		}
	})
	t.Log(met, risen)
	if met < 1000 || risen < 300 {
		t.Error("too few:", met, risen)
	}
}

// TestAnotherOrder: P15.4 by hand: the same, where much hangs on other definitions.
func TestAnotherOrder(t *testing.T) {
	texts := []string{
		fn("a", "x Int, y Int", "Int", global("b", `"y"`, `"x"`)), fn("b", "x Int, y Int", "Int", global("c", global("d", `"x"`), `"y"`)),
		fn("c", "x Int, y Int", "Int", `(case "x" (int 0 `+global("a", `"x"`, "1")+`) (else "x"))`), fn("d", "x Int", "Int", global("e", global("f", `"x"`))),
		fn("e", "l "+list, "Int", `(case "l" (con "Nil" () 0) (con "Cons" ("x" "t") (op + "x" `+global("e", `"t"`)+")))"), fn("f", "x Int", list, cons(`"x"`, global("g", `"x"`))), fn("g", "x Int", list, none),
	}
	const want = "a: 0 1; b: 1 0; c: 1 0; d: 1; e: 3; f: 0; g: 0"
	r := rand.New(rand.NewSource(1))
	for range 100 {
		text := ""
		for _, i := range r.Perm(len(texts)) {
			text += texts[i]
		}
		l := analysed(t, read(t, text))
		slices.SortFunc(l, func(a, b api.Signature) int { return int(a.Name[0]) - int(b.Name[0]) })
		if got := tellAll(l); got != want {
			t.Fatalf("%s\n%s, want %s", text, got, want)
		}
	}
}

// TestRemarks: what package api says of a signature's numbers, by its names.
func TestRemarks(t *testing.T) {
	for want, body := range []string{api.Lazy: "1", api.Strict: `(case "l" (else 1))`, api.TailStrict: global("len", `"l"`), api.HeadStrict: global("sum", `"l"`)} {
		checkFirst(t, fn("f", "l "+list, "Int", body)+library, fmt.Sprint(want))
	}
}
