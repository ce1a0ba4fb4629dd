package meaning_test

import (
	"fmt"
	"strings"
	"testing"

	"sloth/api"
)

// TestDeepSum: a sum by calls that call themselves, as deep as MaxSteps lets it become.
func TestDeepSum(t *testing.T) {
	const sum = `(def "sum" () (Int -> Int) (lam "n" Int (case "n" (int 0 0) (else (op + "n" (app (global "sum") (op - "n" 1)))))))`
	text := func(n int) string { return fmt.Sprintf(`(def "m" () Int (app (global "sum") %d)) `, n) + sum }
	// m, the call, sum, the lambda; case, n, its number, sum, n, the call, sum; each later turn 9, since n is a difference; the last one 6; telling
	steps := func(n int) int { return 4 + 7 + 9*(n-1) + 6 + 1 }
	for _, n := range []int{1, 2, 3, 10} {
		checkAll(t, text(n), fmt.Sprint("done ", steps(n), ": ", n*(n+1)/2))
	}
	const most = (api.MaxSteps - 9) / 9
	check(t, text(most), nil, api.MaxSteps, fmt.Sprint("done ", steps(most), ": ", most*(most+1)/2))
	check(t, text(most), nil, steps(most), fmt.Sprint("done ", steps(most), ": ", most*(most+1)/2))
	check(t, text(most), nil, steps(most)-1, fmt.Sprint("fuel ", steps(most)-1, ":"))
	check(t, text(most+1), nil, api.MaxSteps, fmt.Sprint("fuel ", api.MaxSteps, ":"))
	check(t, text(-1), nil, api.MaxSteps, fmt.Sprint("fuel ", api.MaxSteps, ":"))
}

// TestDeepCells: a history of cells, each of which waits for the next one: a sum that is put off, arguments given on, definitions, lets.
func TestDeepCells(t *testing.T) {
	// m, two calls, go, two lambdas, case, n, its number; each turn: two calls, go, the second lambda, case, n, - n 1; at the end s; cell by cell + s 1; 0, telling
	const sums = (api.MaxSteps - 12) / 12
	put := `(def "m" () Int (app (app (global "go") %d) 0)) (def "go" () (Int -> (Int -> Int)) (lam "n" Int (lam "s" Int (case "n" (int 0 "s") (else (app (app (global "go") (op - "n" 1)) (op + "s" 1)))))))`
	check(t, fmt.Sprintf(put, sums), nil, api.MaxSteps, fmt.Sprint("done ", 12+12*sums, ": ", sums))
	check(t, fmt.Sprintf(put, sums+1), nil, api.MaxSteps, fmt.Sprint("fuel ", api.MaxSteps, ":"))
	// an argument that is given on and on, and asked for at the end: as above, but cell by cell s
	const turns = (api.MaxSteps - 12) / 10
	on := strings.Replace(put, `(op + "s" 1)`, `"s"`, 1)
	check(t, fmt.Sprintf(on, turns), nil, api.MaxSteps, fmt.Sprint("done ", 12+10*turns, ": 0"))
	check(t, fmt.Sprintf(on, turns+1), nil, api.MaxSteps, fmt.Sprint("fuel ", api.MaxSteps, ":"))
	// m; definition by definition; the last one's body; telling
	const defs = 20000
	chain := `(def "m" () Int (global "d0"))` + numbers(defs, `(def "d#" () Int (global "d$"))`)
	check(t, chain+fmt.Sprintf(`(def "d%d" () Int 4)`, defs), nil, api.MaxSteps, fmt.Sprint("done ", defs+4, ": 4"))
	check(t, chain+fmt.Sprintf(`(def "d%d" () Int (fail 2 Int))`, defs), nil, api.MaxSteps, fmt.Sprint("match ", defs+3, ":"))
	// something that needs itself by a long way
	check(t, chain+fmt.Sprintf(`(def "d%d" () Int (global "d0"))`, defs), nil, api.MaxSteps, fmt.Sprint("loop ", defs+3, ":"))
	check(t, chain+fmt.Sprintf(`(def "d%d" () Int (global "m"))`, defs), nil, api.MaxSteps, fmt.Sprint("loop ", defs+3, ":"))
	const binds = 30000
	let := `(def "m" () Int (let (` + numbers(binds, `("x#" Int "x$")`) + `("x30000" Int `
	check(t, let+`7)) "x0"))`, nil, api.MaxSteps, fmt.Sprint("done ", binds+5, ": 7"))
	check(t, let+`"x0")) "x0"))`, nil, api.MaxSteps, fmt.Sprint("loop ", binds+4, ":"))
	check(t, let+`"x29999")) "x0"))`, nil, api.MaxSteps, fmt.Sprint("loop ", binds+4, ":"))
	// by calls: the last one needs what the first one is
	ring := `(def "m" () Int (let (("x" Int (app (app (global "f") 50000) "x"))) "x")) (def "f" () (Int -> (Int -> Int)) (lam "n" Int (lam "y" Int (case "n" (int 0 "y") (else (op + 1 (app (app (global "f") (op - "n" 1)) "y")))))))`
	if o := run(t, read(t, ring), "m", nil, api.MaxSteps); o.Kind != api.Stuck || o.Stuck != api.StuckLoop || len(o.Told) > 0 {
		t.Error(short(told(o)))
	}
}

// TestLongList: a list that is as long as MaxSteps lets it become, told to its end and on and on.
func TestLongList(t *testing.T) {
	down := `(def "down" () (Int -> (List Int)) (lam "n" Int (case "n" (int 0 (con "Nil" Int)) (else (app (app (con "Cons" Int) "n") (app (global "down") (op - "n" 1)))))))`
	// m, the call, down, the lambda; case, n, its number, two calls, Cons, telling, n, telling; each later turn: the call, down, case, n, - n 1, two calls, Cons, telling, n, telling; the last: the call, down, case, n, - n 1, Nil, telling
	const n = 70000
	steps := 4 + 9 + 13*(n-1) + 9
	var want strings.Builder
	for i := n; i > 0; i-- {
		fmt.Fprint(&want, " Cons ", i)
	}
	check(t, fmt.Sprintf(`(def "m" () (List Int) (app (global "down") %d))`, n)+down, nil, api.MaxSteps, fmt.Sprint("done ", steps, ":", want.String(), " Nil"))
	// ones: m, the let, x, two calls, Cons, telling; 1, telling; x; then telling alone
	o := run(t, read(t, `(def "m" () (List Int) (let (("x" (List Int) (app (app (con "Cons" Int) 1) "x"))) "x"))`), "m", nil, api.MaxSteps)
	if o.Kind != api.OutOfFuel || o.Steps != api.MaxSteps || len(o.Told) != api.MaxSteps-8 {
		t.Error(o.Kind, o.Steps, len(o.Told))
	}
	for i, x := range o.Told {
		if x != []api.Item{{Con: "Cons"}, {Num: 1}}[i%2] {
			t.Fatal(i, x)
		}
	}
	// as deep as that on the left
	o = run(t, read(t, `(data M.T () ("M.T" M.T Int)) (def "m" () M.T (let (("x" M.T (app (app (con "M.T") "x") 1))) "x"))`), "m", nil, api.MaxSteps)
	if o.Kind != api.OutOfFuel || o.Steps != api.MaxSteps || len(o.Told) != api.MaxSteps-7 {
		t.Error(o.Kind, o.Steps, len(o.Told))
	}
}

// TestMaxInput: an input of MaxInput numbers, read to its end.
func TestMaxInput(t *testing.T) {
	input := make([]int, api.MaxInput)
	all, sum := "", 0
	var b strings.Builder
	for i := range input {
		input[i] = i*i - 1000
		sum += input[i]
		fmt.Fprint(&b, " Cons ", input[i])
	}
	all = b.String() + " Nil"
	check(t, `(def "m" () ((List Int) -> (List Int)) (lam "l" (List Int) "l"))`, input, api.MaxSteps, fmt.Sprint("done ", 3+2*api.MaxInput+1, ":", all))
	// m, the lambda; case, l, sum, x, the call, m; each later turn t besides; at the end case, l, t, 0, telling
	check(t, `(def "m" () ((List Int) -> Int) (lam "l" (List Int) (case "l" (con "Nil" () 0) (con "Cons" ("x" "t") (op + "x" (app (global "m") "t"))))))`, input, api.MaxSteps,
		fmt.Sprint("done ", 2+6+7*(api.MaxInput-1)+5, ": ", sum))
}

// TestDeepNames: as many names in sight as nesting lets there be; what stands for the first is found at each turn of a long run.
func TestDeepNames(t *testing.T) {
	t.Parallel()
	const deep = 3900
	// m, let by let; the sum of two that lie far from each other
	lets := numbers(deep, `(let (("x#" Int #)) `)
	check(t, `(def "m" () Int `+lets+`(op + "x1" "x3899")`+strings.Repeat(")", deep+1), nil, api.MaxSteps, fmt.Sprint("done ", deep+7, ": 3900"))
	for _, at := range []int{0, 1, 2, 3, 1000, 2047, 2048, 3898, 3899} {
		check(t, fmt.Sprint(`(def "m" () Int `, lets, `"x`, at, `"`, strings.Repeat(")", deep+1)), nil, api.MaxSteps, fmt.Sprint("done ", deep+4, ": ", at))
	}
	loop := `(let (("f" (Int -> Int) (lam "n" Int (case "n" (int 0 "x1") (else (app "f" (op - "n" "x1"))))))) (app "f" 100000))`
	soon(t, "names that lie far away", func() {
		o := run(t, read(t, `(def "m" () Int `+lets+loop+strings.Repeat(")", deep+1)), "m", nil, api.MaxSteps)
		if o.Kind != api.Done || items(o.Told) != " 1" {
			t.Error(told(o))
		}
	})
	// lambdas, hards and alternatives, each within the others
	mixed := `(app (lam "a#" Int (hard "b#" Int (op + "a#" 1) (case (app (app (con "Pair" Int Int) "b#") #) (con "Pair" ("c#" "d#") `
	inner := `(op + "a7" (op + (op * 100 "b500") (op + (op * 1000000 "c900") (op * 1000000000 "d799"))))`
	text := `(def "m" () Int ` + numbers(970, mixed) + inner
	for i := 969; i >= 0; i-- {
		text += fmt.Sprint(`)))) `, i*2, `)`)
	}
	o := run(t, read(t, text+")"), "m", nil, api.MaxSteps)
	if want := 14 + 100*1001 + 1000000*1801 + 1000000000*799; o.Kind != api.Done || items(o.Told) != fmt.Sprint(" ", want) {
		t.Error(told(o), want)
	}
}

// TestWide: an expression with very many parts, of which few are needed each time, is worked out as fast as any.
func TestWide(t *testing.T) {
	t.Parallel()
	many := numbers(30000, `("x#" Int #)`)
	for _, x := range []struct{ name, less string }{
		{"a let with very many Binds", `(let (` + many + `) (op - "n" "x1"))`},
		{"a let, one Bind of which needs all others", `(let (` + numbers(15000, `("x#" Int (op - "x$" 1))`) + `("x15000" Int 15001)) (op - "n" "x0"))`},
		{"a case with very many numbers", `(case "n" ` + numbers(20000, `(int 4# (op - "n" 1))`) + ` (else (op - "n" 1)))`},
	} {
		for _, call := range []string{`(app (global "f") less)`, `(op + 1 (app (global "f") less))`} {
			wide(t, x.name, strings.Replace(call, "less", x.less, 1))
		}
	}
	// all that is bound is there as long as the calls last
	wide(t, "calls within a let with very many Binds", `(let (`+many+`) (op + "x1" (app (global "f") (op - "n" "x1"))))`)
}

// wide: a function whose body this is, but at 0, calls itself till the fuel is used up.
func wide(t *testing.T, what, body string) {
	t.Helper()
	text := `(def "m" () Int (app (global "f") 1000000)) (def "f" () (Int -> Int) (lam "n" Int (case "n" (int 0 0) (else ` + body + `))))`
	soon(t, what, func() { check(t, text, nil, api.MaxSteps, fmt.Sprint("fuel ", api.MaxSteps, ":")) })
}
