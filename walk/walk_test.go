package walk_test

import (
	"fmt"
	"testing"

	"sloth/api"
	"sloth/core"
	"sloth/walk"
)

func body(t *testing.T, text string) *api.Expr {
	t.Helper()
	p, code := core.Read(`(def "f" () Int ` + text + `)`)
	if code != api.OK {
		t.Fatal("the test is wrong:", text)
	}
	return &p.Defs[0].Body
}

// TestAll: each expression once, but no lambda's Value; ahead of its parts.
func TestAll(t *testing.T) {
	e := body(t, `(op + (let (("a" Int 1) ("b" Int (app (lam "x" Int "x") 2))) (hard "h" Int 3 4)) (case 5 (int 6 (seq 7 (fail 1 Int))) (con "Cons" ("u" "v") 8) (else (app (global "g") (con "Nil" Int)))))`)
	count, met := map[int]int{}, map[*api.Expr]int{}
	numbers := map[int]int{}
	for x := range walk.All(e) {
		for i := range x.Args {
			if met[&x.Args[i]] > 0 {
				t.Error("a part ahead of the whole")
			}
		}
		met[x]++
		count[x.Kind]++
		if x.Kind == api.ExprInt {
			numbers[x.Num]++
		}
	}
	want := map[int]int{api.ExprVar: 1, api.ExprInt: 7, api.ExprGlobal: 1, api.ExprCon: 1, api.ExprApp: 2, api.ExprLam: 1, api.ExprLet: 1, api.ExprCase: 1, api.ExprOp: 1, api.ExprSeq: 1, api.ExprHard: 1, api.ExprFail: 1}
	if fmt.Sprint(count) != fmt.Sprint(want) {
		t.Error(count, want)
	}
	for _, n := range []int{1, 2, 3, 4, 5, 7, 8} {
		if numbers[n] != 1 {
			t.Error(n, "is met", numbers[n], "times")
		}
	}
	for range walk.All(e) {
		break // who has seen enough may leave
	}
	deep := api.Expr{Kind: api.ExprInt}
	for range 200000 {
		deep = api.Expr{Kind: api.ExprSeq, Args: []api.Expr{{Kind: api.ExprInt}, deep}}
	}
	n := 0
	for range walk.All(&deep) {
		n++
	}
	if n != 400001 {
		t.Error(n)
	}
}

func TestBody(t *testing.T) {
	for text, want := range map[string]int{`1`: 0, `(lam "x" Int 1)`: 1, `(lam "x" Int (lam "y" Int (lam "z" Int 1)))`: 3, `(lam "x" Int (seq 1 (lam "y" Int 1)))`: 1, `(seq 1 (lam "y" Int 1))`: 0} {
		e, lambdas := walk.Body(body(t, text))
		if lambdas != want || e.Kind == api.ExprLam || e.Kind != api.ExprInt && e.Kind != api.ExprSeq {
			t.Error(text, lambdas, e.Kind)
		}
	}
}

// TestSpine: what is applied, and all its arguments, in their order.
func TestSpine(t *testing.T) {
	for text, want := range map[string]int{`1`: 0, `(app (global "g") 1)`: 1, `(app (app (app (con "c") 1) (app 2 3)) 3)`: 3, `(app (app (seq 1 (app 2 3)) 1) 2)`: 2} {
		e := body(t, text)
		head, args := walk.Spine(e)
		if len(args) != want || head.Kind == api.ExprApp {
			t.Error(text, len(args), head.Kind)
		}
		for i, a := range args {
			f := e
			for range want - 1 - i {
				f = &f.Args[0]
			}
			if a != &f.Args[1] || i == 0 && head != &f.Args[0] {
				t.Error(text, i)
			}
		}
	}
}

// TestNames: all that binds a local, each once, and nothing else.
func TestNames(t *testing.T) {
	e := body(t, `(lam "a" Int (op + (let (("b" Int 1) ("c" Int (app (lam "d" Int "d") 2))) (hard "e" Int 3 "a")) (case 5 (int 6 (seq 7 "b")) (con "Cons" ("f" "g") (app (global "x") (con "y"))) (con "Nil" () (case 8 (con "Pair" ("h" "i") "f"))) (else "z"))))`)
	met := map[string]int{}
	for name := range walk.Names(e) {
		met[name]++
	}
	if got := fmt.Sprint(met); got != "map[a:1 b:1 c:1 d:1 e:1 f:1 g:1 h:1 i:1]" {
		t.Error(got)
	}
	for n := range 10 { // who has seen enough may leave
		seen := 0
		for range walk.Names(e) {
			if seen++; seen == n {
				break
			}
		}
		if n > 0 && seen != n {
			t.Error(seen, n)
		}
	}
}
