package simplify_test

import (
	"fmt"
	"slices"
	"testing"

	"sloth/api"
	"sloth/core"
	"sloth/simplify"
)

// TestPlain: P11.1, P11.2: programs made at random against the second form, round by round.
func TestPlain(t *testing.T) {
	t.Parallel()
	done := map[int]int{}
	many(t, 1, 250, func(k *maker) { checkPlain(t, k.Program, done) })
	t.Log(done)
	for rule := 1; rule <= 15; rule++ {
		if done[rule] < 50 {
			t.Errorf("rule %d was done %d times", rule, done[rule])
		}
	}
}

// checkPlain: all rounds come to what the second form says, as long as that is not too great for it.
func checkPlain(t *testing.T, p api.Program, done map[int]int) {
	t.Helper()
	want, names := p, 0
	for rounds := 1; rounds <= api.MaxRounds; rounds++ {
		next, code := plainRound(want, &names, done)
		got, gotCode := simplify.Simplify(p, rounds)
		if code != gotCode || code == api.OK && !same(got, next) {
			t.Fatalf("%d rounds of\n%s\ncome to %v\n%s\nbut one behind\n%s\nto %v\n%s", rounds, printed(p), gotCode, printed(got), printed(want), code, printed(next))
		}
		if code != api.OK || core.Size(next) > 20000 {
			return
		}
		want = next
	}
}

// TestGreatTypes: the same, where many copies are not made, since a type would become too great.
func TestGreatTypes(t *testing.T) {
	t.Parallel()
	calls, made := 0, 0
	many(t, 2, 150, func(k *maker) {
		// each definition made at random becomes one of Int to Int with its parameters, called at types of which some are great
		var p api.Program
		p.Datas = k.Datas
		p.Defs = slices.Clone(k.Defs)
		main := number(1)
		for _, d := range k.Defs {
			if len(d.Params) == 0 {
				continue
			}
			b := api.Bind{Name: "arg", Type: integer}
			body := api.Expr{Kind: api.ExprSeq, Args: []api.Expr{{Kind: api.ExprGlobal, Name: d.Name}, {Kind: api.ExprVar, Name: "arg"}}}
			call := api.Expr{Kind: api.ExprGlobal, Name: "call " + d.Name}
			for _, name := range d.Params {
				body.Args[0].Types = append(body.Args[0].Types, api.Type{Kind: api.TyVar, Name: name})
				call.Types = append(call.Types, typ(lists(1+k.Intn(pick(k.Rand, 20, 300)))))
			}
			p.Defs = append(p.Defs, api.Def{Name: "call " + d.Name, Params: d.Params, Type: typ("(Int -> Int)"), Body: api.Expr{Kind: api.ExprLam, Binds: []api.Bind{b}, Args: []api.Expr{body}}})
			main = api.Expr{Kind: api.ExprOp, Name: "+", Args: []api.Expr{main, app(call, number(2))}}
			calls++
		}
		p.Defs = append(p.Defs, api.Def{Name: "main", Type: integer, Body: main})
		if code := core.Check(p); code != api.OK {
			t.Fatal("the test is wrong:", code)
		}
		next, code := plainRound(p, new(int), map[int]int{})
		q := simple(t, p, 1)
		if code != api.OK || !same(q, next) {
			t.Fatalf("a round of\n%s\ncomes to\n%s\nwant\n%s", printed(p), printed(q), printed(next))
		}
		for e := q.Defs[len(q.Defs)-1].Body; e.Kind == api.ExprOp; e = e.Args[0] {
			if e.Args[1].Args[0].Kind == api.ExprLam {
				made++
			}
		}
	})
	t.Log(calls, made)
	if made < 300 || made > calls-300 {
		t.Errorf("of %d calls, %d got a copy", calls, made)
	}
}

// TestInARow: P11.3: a rounds, and b rounds of what they come to; once a round has changed nothing, none does.
func TestInARow(t *testing.T) {
	t.Parallel()
	met := map[int]int{} // after how many rounds nothing changes
	many(t, 3, 70, func(k *maker) {
		all := make([]api.Program, 0, api.MaxRounds+1)
		still := -1
		for rounds := range api.MaxRounds + 1 {
			q, code := simplify.Simplify(k.Program, rounds)
			if code != api.OK {
				break
			}
			if still < 0 && rounds > 0 && same(q, all[rounds-1]) {
				still = rounds - 1
			}
			if still >= 0 && !same(q, all[still]) {
				t.Fatalf("%d rounds of\n%s\ncome to\n%s\nthough round %d changed nothing", rounds, printed(k.Program), printed(q), still+1)
			}
			all = append(all, q)
		}
		met[still]++
		for a := range all {
			for b := range len(all) - a {
				if q := simple(t, all[a], b); !same(q, all[a+b]) {
					t.Fatalf("%d and %d rounds of\n%s\ncome to\n%s\n%d rounds to\n%s", a, b, printed(k.Program), printed(q), a+b, printed(all[a+b]))
				}
			}
		}
	})
	t.Log(met)
	if met[-1] < 5 || met[3]+met[4]+met[5] < 10 {
		t.Error("few that end, or few that go on:", met)
	}
}

// TestKept: P11.1: data types and definitions stay, in their order, with their names, parameters and types; names of locals that no copy gave stay too.
func TestKept(t *testing.T) {
	t.Parallel()
	many(t, 4, 100, func(k *maker) {
		q, code := simplify.Simplify(k.Program, 1+k.Intn(api.MaxRounds))
		if code != api.OK {
			return
		}
		if len(q.Datas) != len(k.Datas) || len(q.Defs) != len(k.Defs) {
			t.Fatal(len(q.Datas), len(q.Defs))
		}
		for i, d := range k.Defs {
			if e := q.Defs[i]; e.Name != d.Name || !slices.Equal(e.Params, d.Params) || !sameType(e.Type, d.Type) {
				t.Fatal(i, d.Name, e.Name)
			}
		}
		empty := api.Program{Datas: k.Datas}
		if !same(empty, api.Program{Datas: q.Datas}) {
			t.Fatal("other data types:", printed(q))
		}
	})
	if q := simple(t, api.Program{}, 8); len(q.Datas)+len(q.Defs) > 0 {
		t.Error(q)
	}
}

// TestTwice: W2: asked twice, the answer is the same, names too.
func TestTwice(t *testing.T) {
	t.Parallel()
	many(t, 5, 60, func(k *maker) {
		for _, rounds := range []int{0, 1, 2, 8} {
			p, code := simplify.Simplify(k.Program, rounds)
			q, again := simplify.Simplify(k.Program, rounds)
			if code != again || fmt.Sprint(p) != fmt.Sprint(q) {
				t.Fatalf("%v\n%s\n%v\n%s", code, printed(p), again, printed(q))
			}
			if rounds == 0 && fmt.Sprint(p) != fmt.Sprint(k.Program) {
				t.Fatalf("no rounds of\n%s\ncome to\n%s", printed(k.Program), printed(p))
			}
		}
	})
}
