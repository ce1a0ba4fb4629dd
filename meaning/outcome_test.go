package meaning_test

import (
	"slices"
	"strings"
	"testing"

	"sloth/api"
)

// TestTelling: P10.2: a constructor ahead of its fields, these from the left, each worked out when its turn comes.
func TestTelling(t *testing.T) {
	const datas = `(data M.T (a) ("M.L") ("M.N" (M.T a) a (M.T a))) (data M.W () ("M.W" Int Bool (List Int)))`
	const leaf = `(con "M.L" Int)`
	node := func(l, x, r string) string {
		return `(app (app (app (con "M.N" Int) ` + l + `) ` + x + `) ` + r + `)`
	}
	tree := `(def "m" () (M.T Int) `
	for _, x := range []struct{ text, want string }{
		{datas + tree + node(leaf, "1", leaf) + ")", "done 12: M.N M.L 1 M.L"},
		{datas + tree + node(node(leaf, "1", leaf), "2", node(leaf, "3", leaf)) + ")", "done 30: M.N M.N M.L 1 M.L 2 M.N M.L 3 M.L"},
		// stuck within a field, behind what was told
		{datas + tree + node(node(leaf, "1", leaf), "(op / 2 0)", node(leaf, "3", leaf)) + ")", "zero 20: M.N M.N M.L 1 M.L"},
		{datas + tree + node(node(leaf, "1", "(fail 2 (M.T Int))"), "(op / 2 0)", node(leaf, "3", leaf)) + ")", "match 16: M.N M.N M.L 1"},
		{datas + tree + node("(global \"m\")", "1", leaf) + ")", ""}, // without end, to the left
		{datas + `(def "m" () M.W (app (app (app (con "M.W") (op + 1 1)) (op < 1 2)) ` + list(7, 8) + `))`, "done 28: M.W 2 True Cons 7 Cons 8 Nil"},
		{`(def "m" () (Pair Int Int) (app (app (con "Pair" Int Int) 1) (fail 1 Int)))`, "stop 8: Pair 1"},
		{`(def "m" () (Pair Int Int) (app (app (con "Pair" Int Int) (fail 1 Int)) 1))`, "stop 6: Pair"},
		// what the left field needs of the right one is there, when its turn comes
		{`(def "m" () (Pair Int Int) (let (("x" Int (op + "y" 1)) ("y" Int (op + 1 1))) (app (app (con "Pair" Int Int) "x") "y")))`, "done 16: Pair 3 2"},
	} {
		if x.want != "" {
			checkAll(t, x.text, x.want)
			continue
		}
		// m, three calls, M.N, telling; then m, and telling, on and on: the cell of the field is worked out once
		o := run(t, read(t, x.text), "m", nil, 1000)
		if got := told(o); got != "fuel 1000:"+strings.Repeat(" M.N", 994) {
			t.Errorf("%s: %s", x.text, got)
		}
	}
}

// TestEndless: P10.2: values without end are told on and on.
func TestEndless(t *testing.T) {
	// each turn takes the same steps: what is told grows with the fuel
	from := `(def "m" () (List Int) (app (global "from") 1)) (def "from" () (Int -> (List Int)) (lam "n" Int (app (app (con "Cons" Int) "n") (app (global "from") (op + "n" 1)))))`
	// m, the call, from, the lambda; two calls, Cons, telling, n, 1, telling
	check(t, from, nil, 11, "fuel 11: Cons 1")
	// the call, from, two calls, Cons, telling, n, the sum, n, 1, telling
	check(t, from, nil, 11+11, "fuel 22: Cons 1 Cons 2")
	check(t, from, nil, 11+11+5, "fuel 27: Cons 1 Cons 2")
	check(t, from, nil, 11+11+6, "fuel 28: Cons 1 Cons 2 Cons")
	o := run(t, read(t, from), "m", nil, 11+11*5000)
	if len(o.Told) != 2*5001 || o.Told[10000] != (api.Item{Con: "Cons"}) || o.Told[10001] != (api.Item{Num: 5001}) {
		t.Error(len(o.Told))
	}
	// one that is no list, and goes on in its first field
	left := `(data M.T () ("M.T" M.T Int)) (def "m" () M.T (let (("x" M.T (app (app (con "M.T") "x") 1))) "x"))`
	check(t, left, nil, 15, "fuel 15:"+strings.Repeat(" M.T", 8))
	// nothing is told, on and on
	check(t, `(def "m" () Int (app (global "f") 1)) (def "f" () (Int -> Int) (lam "x" Int (app (global "f") "x")))`, nil, 5000, "fuel 5000:")
}

// TestInput: P10.2: an entry that takes the input, and one that does not; an input that is read in part, to its end, not at all.
func TestInput(t *testing.T) {
	const head = `(def "m" () ((List Int) -> Int) `
	for _, x := range []struct {
		text  string
		input []int
		want  string
	}{
		// not taken
		{`(def "m" () Int 7)`, []int{1, 2, 3}, "done 3: 7"},
		{`(def "m" () (List Int) ` + list(7) + `)`, []int{1, 2, 3}, "done 9: Cons 7 Nil"},
		// taken, and not read
		{head + `(lam "l" (List Int) 5))`, []int{1, 2, 3}, "done 4: 5"},
		{head + `(lam "l" (List Int) 5))`, nil, "done 4: 5"},
		// what is read is there: no steps but those of the program
		{`(def "m" () ((List Int) -> (List Int)) (lam "l" (List Int) "l"))`, []int{3, -4, 5}, "done 10: Cons 3 Cons -4 Cons 5 Nil"},
		{`(def "m" () ((List Int) -> (List Int)) (lam "l" (List Int) "l"))`, nil, "done 4: Nil"},
		{`(def "m" () ((List Int) -> (List Int)) (lam "l" (List Int) "l"))`, []int{api.MinInt, api.MaxInt}, "done 8: Cons -4611686018427387904 Cons 4611686018427387903 Nil"},
		{head + `(lam "l" (List Int) (case "l" (con "Cons" ("x" "t") "x"))))`, []int{3, 4, 5}, "done 6: 3"},
		{head + `(lam "l" (List Int) (case "l" (con "Cons" ("x" "t") "x"))))`, nil, "match 4:"},
		{head + `(lam "l" (List Int) (case "l" (con "Cons" ("x" "t") (case "t" (con "Cons" ("y" "u") (op - "x" "y")))))))`, []int{3, 4, 5}, "done 10: -1"},
		{head + `(lam "l" (List Int) (case "l" (con "Cons" ("x" "t") (case "t" (con "Cons" ("y" "u") (op - "x" "y")))))))`, []int{3}, "match 6:"},
		// the sum: m, the lambda, the call, f, its lambda; each number: case, l, what was given for it, sum, x, call, f; at the end: case, l, what was given, 0, telling
		{head + `(lam "i" (List Int) (app (global "f") "i"))) (def "f" () ((List Int) -> Int) (lam "l" (List Int) (case "l" (con "Nil" () 0) (con "Cons" ("x" "t") (op + "x" (app (global "f") "t"))))))`, []int{1, 2, 3}, "done 31: 6"},
		// the entry's value is a function by some way
		{head + `(global "f")) (def "f" () ((List Int) -> Int) (lam "l" (List Int) 5))`, []int{1}, "done 5: 5"},
		{head + `(let (("k" Int (op + 1 1))) (lam "l" (List Int) (case "l" (con "Cons" ("x" "t") (op * "x" "k"))))))`, []int{21}, "done 12: 42"},
		{head + `(app (lam "f" ((List Int) -> Int) "f") (lam "l" (List Int) 5)))`, nil, "done 7: 5"},
		{head + `(fail 1 ((List Int) -> Int)))`, []int{1}, "stop 2:"},
		{head + `(global "m"))`, []int{1}, "loop 2:"},
		{head + `(seq (op / 1 0) (lam "l" (List Int) 5)))`, []int{1}, "zero 5:"},
		// a constructor that lacks the input
		{`(data M.T () ("M.T" (List Int))) (def "m" () ((List Int) -> M.T) (con "M.T"))`, []int{4, 5}, "done 8: M.T Cons 4 Cons 5 Nil"},
		{`(def "m" () ((List Int) -> (List Int)) (app (con "Cons" Int) 3))`, []int{4}, "done 9: Cons 3 Cons 4 Nil"},
		// an entry that is called besides
		{head + `(lam "l" (List Int) (case "l" (con "Nil" () 1) (con "Cons" ("x" "t") (op + "x" (app (global "m") (con "Nil" Int)))))))`, []int{7}, "done 13: 8"},
		// the input is used twice
		{`(def "m" () ((List Int) -> (Pair (List Int) (List Int))) (lam "l" (List Int) (app (app (con "Pair" (List Int) (List Int)) "l") "l")))`, []int{4}, "done 14: Pair Cons 4 Nil Cons 4 Nil"},
	} {
		check(t, x.text, x.input, 1000, x.want)
		if second := told(plainRun(read(t, x.text), "m", x.input, 1000)); second != x.want {
			t.Errorf("%s: the second form says %s, want %s", x.text, second, x.want)
		}
	}
}

// TestEntries: DOC.md: which types an entry may have.
func TestEntries(t *testing.T) {
	const datas = `(data M.F () ("M.F" (Int -> Int)) ("M.N")) (data M.P (a) ("M.P")) (data M.A (a) ("M.A" a)) (data M.R (a) ("M.R" (M.R (Pair a a))) ("M.E"))
		(data M.V () ("M.V" (M.A M.H))) (data M.H () ("M.H" Int) ("M.I" (M.A (M.P (List M.F))))) (data M.G (a b) ("M.G" a (a -> b)) ("M.O")) (data M.S () ("M.S" (M.G Int Int)))
		(data M.X () ("M.X" M.Y) ("M.Z")) (data M.Y () ("M.Y" M.X (M.P M.X)))`
	for _, x := range []struct {
		is string
		ok bool
	}{
		{"Int", true},
		{"Bool", true},
		{"Unit", true},
		{"(List Int)", true},
		{"(List (List Bool))", true},
		{"(Triple Int (Pair Int Unit) (List Bool))", true},
		{"((List Int) -> Int)", true},
		{"((List Int) -> (Pair Bool (List Int)))", true},
		{"(M.P Int)", true},
		{"(M.A (M.A (M.P Int)))", true},
		{"(M.R Int)", true}, // its types have no end, but no function
		{"M.X", true},       // a ring
		{"((List Int) -> M.Y)", true},
		// functions
		{"(Int -> Int)", false},
		{"((List Bool) -> Int)", false},
		{"((List (List Int)) -> Int)", false},
		{"((Pair Int Int) -> Int)", false},
		{"((M.P Int) -> Int)", false},
		{"((List Int) -> (Int -> Int))", false},
		{"((List Int) -> ((List Int) -> Int))", false},
		{"(((List Int) -> Int) -> Int)", false},
		// in arguments
		{"(List (Int -> Int))", false},
		{"(Pair Int (List (Int -> Int)))", false},
		{"((List Int) -> (List (Int -> Int)))", false},
		{"(M.P (Int -> Int))", false},
		{"(M.A (M.P (Int -> Int)))", false},
		// in fields
		{"M.F", false},
		{"((List Int) -> M.F)", false},
		{"(List M.F)", false},
		{"(M.P M.F)", false},
		{"(M.G Int Int)", false},
		{"M.S", false},
		{"M.H", false},
		{"M.V", false},
		{"(M.R M.V)", false},
	} {
		p := read(t, datas+`(def "m" () `+x.is+` (fail 1 `+x.is+`))`)
		if x.ok {
			if got := told(run(t, p, "m", nil, 9)); got != "stop 2:" {
				t.Errorf("%s: %s", x.is, got)
			}
		} else {
			checkRefused(t, p, "m", nil, 9, api.ErrMeaningEntry)
		}
	}
	// a long way from one data type to the next
	far := numbers(9000, `(data M.T# () ("M.T#" M.T$))`)
	for _, x := range []struct {
		field string
		ok    bool
	}{{"Int", true}, {"(Int -> Int)", false}} {
		p := read(t, far+`(data M.T9000 () ("M.T9000" `+x.field+`)) (def "m" () M.T0 (fail 1 M.T0))`)
		if x.ok {
			run(t, p, "m", nil, 9)
		} else {
			checkRefused(t, p, "m", nil, 9, api.ErrMeaningEntry)
		}
	}
}

// TestFuel: P10.3: fuel 0, 1, one step less than is needed, as many, and MaxSteps.
func TestFuel(t *testing.T) {
	for _, x := range []struct {
		text string
		fuel int
		want string
	}{
		{`(def "m" () Int 7)`, 0, "fuel 0:"},
		{`(def "m" () Int 7)`, 1, "fuel 1:"},
		{`(def "m" () Int 7)`, 2, "fuel 2:"},
		{`(def "m" () Int 7)`, 3, "done 3: 7"},
		{`(def "m" () Int 7)`, api.MaxSteps, "done 3: 7"},
		{`(def "m" () Int (fail 1 Int))`, 0, "fuel 0:"},
		{`(def "m" () Int (fail 1 Int))`, 1, "fuel 1:"},
		{`(def "m" () Int (fail 1 Int))`, 2, "stop 2:"},
		{`(def "m" () Int (op / 1 0))`, 3, "fuel 3:"},
		{`(def "m" () Int (op / 1 0))`, 4, "zero 4:"},
		{`(def "m" () Int (case 5 (int 4 1)))`, 2, "fuel 2:"},
		{`(def "m" () Int (case 5 (int 4 1)))`, 3, "match 3:"},
		{`(def "m" () Int (let (("x" Int "x")) "x"))`, 3, "fuel 3:"},
		{`(def "m" () Int (let (("x" Int "x")) "x"))`, 4, "loop 4:"},
		// an item is told by its own step
		{`(def "m" () (List Int) ` + list(5) + `)`, 4, "fuel 4:"},
		{`(def "m" () (List Int) ` + list(5) + `)`, 5, "fuel 5: Cons"},
		{`(def "m" () (List Int) ` + list(5) + `)`, 6, "fuel 6: Cons"},
		{`(def "m" () (List Int) ` + list(5) + `)`, 7, "fuel 7: Cons 5"},
		{`(def "m" () (List Int) ` + list(5) + `)`, 8, "fuel 8: Cons 5"},
		{`(def "m" () (List Int) ` + list(5) + `)`, 9, "done 9: Cons 5 Nil"},
	} {
		check(t, x.text, nil, x.fuel, x.want)
	}
}

// TestMemory: W6: what is handed in stays as it is, spare room too; what comes out is new memory; asked twice, it is the same.
func TestMemory(t *testing.T) {
	const text = `(def "m" () ((List Int) -> (Pair (List Int) Int)) (lam "l" (List Int) (app (app (con "Pair" (List Int) Int) "l") (case "l" (con "Cons" ("x" "t") (op * "x" 2))))))`
	p, same := read(t, text), read(t, text)
	room := []int{3, 4, 77, 88}
	input := room[:2]
	const want = "done 18: Pair Cons 3 Cons 4 Nil 6"
	first := run(t, p, "m", input, 1000)
	second := run(t, p, "m", input, 1000)
	if told(first) != want || told(second) != want {
		t.Error(told(first), told(second))
	}
	if !slices.Equal(room, []int{3, 4, 77, 88}) || !sameProgram(p, same) {
		t.Error("what was handed in has changed")
	}
	all := first.Told[:cap(first.Told)]
	for i := range all {
		all[i] = api.Item{Con: "x", Num: 1}
	}
	input[0] = 9
	p.Defs[0].Body = api.Expr{Kind: api.ExprFail, Num: 1, Types: p.Defs[0].Body.Types}
	if told(second) != want {
		t.Error("what was answered has changed:", told(second))
	}
	if got := told(run(t, same, "m", []int{3, 4}, 1000)); got != want {
		t.Error("what is answered has changed:", got)
	}
}
