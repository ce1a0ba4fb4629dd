package lift_test

import (
	"fmt"
	"strings"
	"testing"

	"sloth/api"
	"sloth/core"
	"sloth/lift"
)

// checkLimit: at a limit a text comes to something, one past it Lift says what is wanted.
func checkLimit(t *testing.T, what string, want api.Errno, text func(more int) string) {
	t.Helper()
	for more := -1; more <= 0; more++ {
		lifted(t, read(t, text(more)))
	}
	for more := 1; more <= 2; more++ {
		checkCode(t, fmt.Sprint(what, ", ", more, " above"), read(t, text(more)), want)
	}
}

// TestMaxArity: a definition of MaxArity own lambdas, or more: one that stays, one that comes; by its own lambdas, by what it is given, by what others need.
func TestMaxArity(t *testing.T) {
	const most = api.MaxArity
	checkLimit(t, "a definition that stays", api.ErrBig, func(more int) string {
		return `(def "f" () ` + arrows(most+more, "Int") + ` ` + lams(most+more, "x", "1") + `)`
	})
	checkLimit(t, "a definition that stays and has a function", api.ErrBig, func(more int) string {
		return def("e", "1") + `(def "f" () ` + arrows(most+more, "Int") + ` ` + lams(most+more, "x", `(app (lam "y" Int "x3") 1)`) + `)`
	})
	checkLimit(t, "own lambdas of a function", api.ErrBig, func(more int) string {
		return def("f", `(seq `+lams(most+more, "x", "1")+` 1)`)
	})
	checkLimit(t, "own lambdas of a named function", api.ErrBig, func(more int) string {
		return def("f", `(let (("h" `+arrows(most+more, "Int")+` `+lams(most+more, "x", "1")+`)) 1)`)
	})
	locals := func(n int) string { return `(let (` + numbers(n, `("y#" Int #)`) + `) ` }
	for given := 1; given < most; given++ {
		checkLimit(t, fmt.Sprint(given, " that are given, and own lambdas"), api.ErrBig, func(more int) string {
			if given+1 > most+more { // no function without a lambda
				return def("f", "1")
			}
			return def("f", locals(given)+`(seq `+lams(most-given+more, "x", sum(each(given, `"y#"`)...))+` 1))`)
		})
	}
	checkLimit(t, "what is given", api.ErrBig, func(more int) string {
		n := most - 1 + more
		return def("f", locals(n)+`(app (lam "x" Int `+sum(each(n, `"y#"`)...)+`) 1))`)
	})
	checkLimit(t, "what is given to functions that need one another, each of which speaks of few", api.ErrBig, func(more int) string {
		n := most - 1 + more
		return def("f", locals(n)+`(let (`+numbers(n-1, `("h#" (Int -> Int) (lam "x#" Int (op + "y#" (app "h@" "x#"))))`)+fmt.Sprintf(`("h%d" (Int -> Int) (lam "x%d" Int (op + "y%d" (app "h0" 1))))`, n-1, n-1, n-1)+`) 1))`)
	})
	checkLimit(t, "what is given over a long row", api.ErrBig, func(more int) string {
		n := most - 1 + more
		return def("f", locals(n)+`(let (`+numbers(n, `("h#" (Int -> Int) (lam "x#" Int (op + "y#" (app "h@" "x#"))))`)+fmt.Sprintf(`("h%d" (Int -> Int) (lam "x%d" Int 1))`, n, n)+`) (app "h0" 1)))`)
	})
	checkLimit(t, "what is given for what it needs, and own lambdas", api.ErrBig, func(more int) string {
		return def("f", locals(20)+`(let (("h" (Int -> Int) (lam "x" Int `+sum(each(20, `"y#"`)...)+`))) (seq `+lams(4+more, "z", `(app "h" 1)`)+` 1)))`)
	})
	checkLimit(t, "what a function within is given, which the one around it is not", api.ErrBig, func(more int) string {
		n := most - 1 + more
		return def("f", `(app (lam "x" Int `+locals(n)+`(app (lam "z" Int `+sum(each(n, `"y#"`)...)+`) 1))) 1)`)
	})
	// far above: what is given is not gathered to its end
	checkCode(t, "very many", read(t, def("f", locals(9000)+`(app (lam "x" Int `+sum(each(9000, `"y#"`)...)+`) 1))`)), api.ErrBig)
	// names of functions are not given, so they do not count
	text := def("f", `(let (`+numbers(30, `("h#" (Int -> Int) (lam "x#" Int #))`)+`) (app (lam "z" Int `+sum(each(30, `(app "h#" 1)`)...)+`) 1))`)
	if n, _ := arity(lifted(t, read(t, text)).Defs[31].Body); n != 1 {
		t.Error(n, "lambdas")
	}
}

// TestMaxGlobals: MaxGlobals definitions, or more: those that there are, those that come, both.
func TestMaxGlobals(t *testing.T) {
	const most = api.MaxGlobals
	functions := func(n int) string { return sum(each(n, `(app (lam "x#" Int "x#") 1)`)...) }
	checkLimit(t, "definitions", api.ErrBig, func(more int) string { return numbers(most+more, def("d#", "1")) })
	checkLimit(t, "functions", api.ErrBig, func(more int) string { return def("f", functions(most-1+more)) })
	checkLimit(t, "functions with names", api.ErrBig, func(more int) string {
		return def("f", `(let (`+numbers(most-1+more, `("h#" (Int -> Int) (lam "x#" Int "x#"))`)+`) 1)`)
	})
	checkLimit(t, "both", api.ErrBig, func(more int) string {
		return numbers(500, def("d#", "1")) + def("f", functions(700)) + numbers(498, def("e#", "1")) + def("g", functions(300+more))
	})
	checkLimit(t, "functions within one another", api.ErrBig, func(more int) string {
		return numbers(99, def("d#", "1")) + def("f", nested(1900+more, `(app (lam "x#" Int `, "1", `) 1)`))
	})
	// several own lambdas are of one function
	if got := len(lifted(t, read(t, def("f", sum(each(1000, `(app (app (app (lam "x#" Int (lam "y#" Int (lam "z#" Int "y#"))) 1) 2) 3)`)...)))).Defs); got != 1001 {
		t.Error(got, "definitions")
	}
	checkCode(t, "very many definitions", read(t, numbers(30000, def("d#", "1"))), api.ErrBig)
	checkCode(t, "very many functions", read(t, def("f", functions(12000))), api.ErrBig)
}

// TestMaxName: a name of MaxName bytes, or more: the number counts, and the numbers that are passed over make it greater.
func TestMaxName(t *testing.T) {
	name := func(n int) string { return strings.Repeat("x", n) }
	function := `(app (lam "x#" Int "x#") 1)`
	for _, x := range []struct{ functions, digits int }{{1, 1}, {9, 1}, {10, 2}, {99, 2}, {100, 3}, {999, 3}, {1000, 4}} {
		bytes := api.MaxName - 1 - x.digits
		checkCode(t, fmt.Sprint(x.functions, " functions"), read(t, def(name(bytes), sum(each(x.functions, function)...))), api.OK)
		checkCode(t, fmt.Sprint(x.functions, " functions, a byte more"), read(t, def(name(bytes+1), sum(each(x.functions, function)...))), api.ErrBig)
	}
	f := name(api.MaxName - 2)
	checkNames(t, def(f, function), f+" "+f+"$1")
	taken := ""
	for i := 1; i <= 8; i++ {
		taken += def(fmt.Sprint(f, "$", i), "1")
	}
	checkCode(t, "the last number of one digit", read(t, taken+def(f, function)), api.OK)
	checkCode(t, "the last number of one digit, needed twice", read(t, taken+def(f, sum(each(2, function)...))), api.ErrBig)
	checkCode(t, "all numbers of one digit are passed over", read(t, taken+def(f, function)+def(f+"$9", "1")), api.ErrBig)
	// without functions no name is made; how long the names of locals are does not count
	checkLifted(t, def(name(api.MaxName), "1"), def(name(api.MaxName), "1"))
	checkCode(t, "a name of MaxName that has a function", read(t, def(name(api.MaxName), function)), api.ErrBig)
	long := name(api.MaxName)
	checkLifted(t, fun("f", `(lam "`+long+`" Int (let (("`+long[1:]+`" (Int -> Int) (lam "y" Int "`+long+`"))) (app "`+long[1:]+`" 1)))`), fun("f", `(lam "`+long+`" Int (app (app (global "f$1") "`+long+`") 1))`)+`(def "f$1" () `+arrows(2, "Int")+` (lam "`+long+`" Int (lam "y" Int "`+long+`")))`)
}

// TestMaxType: what a function becomes has a type of MaxType nodes, or more: by one thing that it is given, by several, by a lambda's, a let's, an alternative's.
func TestMaxType(t *testing.T) {
	const most = api.MaxType
	checkLimit(t, "a lambda's", api.ErrBig, func(more int) string { // T -> (Int -> Int): n + 4 nodes
		typ := lists(most - 4 + more)
		return `(def "f" () (` + typ + ` -> Int) (lam "a" ` + typ + ` (app (lam "x" Int (seq "a" 1)) 1)))`
	})
	checkLimit(t, "a let's", api.ErrBig, func(more int) string {
		typ := lists(most - 4 + more)
		return def("f", `(let (("a" `+typ+` "a")) (app (lam "x" Int (seq "a" 1)) 1))`)
	})
	checkLimit(t, "an alternative's", api.ErrBig, func(more int) string {
		typ := lists(most - 4 + more)
		return def("f", `(case (fail 1 (Pair Int `+typ+`)) (con "Pair" ("a" "b") (app (lam "x" Int (seq "b" 1)) 1)))`)
	})
	checkLimit(t, "an alternative's, by a parameter", api.ErrBig, func(more int) string { // Pair T (List T): 2 n + 2, and 4 more
		typ := lists((most-4)/2 - 1 + more)
		return `(data M.T (a) ("M.A" (Pair a (List a))))` + def("f", `(case (fail 1 (M.T `+typ+`)) (con "M.A" ("b") (app (lam "x" Int (seq "b" 1)) 1)))`)
	})
	checkLimit(t, "several", api.ErrBig, func(more int) string { // T -> (U -> (Int -> Int))
		a, b := lists(200), lists(most-205+more)
		return def("f", `(let (("a" `+a+` "a") ("b" `+b+` "b")) (app (lam "x" Int (seq "a" (seq "b" 1))) 1))`)
	})
	checkLimit(t, "what it takes, beside what it is given", api.ErrBig, func(more int) string { // Int -> (T -> Int)
		typ := lists(most - 4 + more)
		return def("f", `(let (("n" Int 1)) (seq (lam "x" `+typ+` "n") 1))`)
	})
	checkLimit(t, "what it answers, beside what it is given", api.ErrBig, func(more int) string { // Int -> (Int -> T)
		typ := lists(most - 4 + more)
		return def("f", `(let (("n" Int 1)) (seq (lam "x" Int (seq "n" (fail 1 `+typ+`))) 1))`)
	})
	checkLimit(t, "a named function", api.ErrBig, func(more int) string {
		typ := lists(most - 6 + more) // Int -> (Int -> (T -> Int))
		return def("f", `(let (("n" Int 1) ("h" (Int -> (`+typ+` -> Int)) (lam "x" Int (lam "y" `+typ+` "n")))) 1)`)
	})
	checkLimit(t, "for what it needs", api.ErrBig, func(more int) string { // T -> (Int -> (U -> Int)), of which a part is needed by h alone
		typ := lists(most - 5 - 240 + more)
		return def("f", `(let (("a" `+typ+` "a") ("h" (Int -> Int) (lam "x" Int (seq "a" 1)))) (seq (lam "y" Int (lam "z" `+lists(240)+` (app "h" 1))) 1))`)
	})
	// a function that is given nothing has a type that core.Check lets it have
	typ := lists(most - 2)
	checkLifted(t, def("f", `(seq (lam "x" `+typ+` 1) 1)`), def("f", `(seq (global "f$1") 1)`)+`(def "f$1" () (`+typ+` -> Int) (lam "x" `+typ+` 1))`)
}

// padded is a program that has so many nodes more, in data types.
func padded(t *testing.T, p api.Program, nodes int) api.Program {
	t.Helper()
	if nodes < 2 {
		t.Fatal("the test is wrong: padded by", nodes)
	}
	q := api.Program{Datas: append([]api.Data{}, p.Datas...), Defs: p.Defs}
	for nodes > 0 {
		n := min(nodes, 400)
		if nodes-n == 1 {
			n--
		}
		name := fmt.Sprint("Pad", nodes)
		d := api.Data{Name: name, Cons: []api.Con{{Name: name}}}
		if n > 2 {
			d.Cons[0].Fields = append(d.Cons[0].Fields, typ(lists(n-2)))
		}
		q.Datas = append(q.Datas, d)
		nodes -= n
	}
	return q
}

// TestMaxCore: the answer has MaxCore nodes, or more: by what is given, by the calls, by types.
func TestMaxCore(t *testing.T) {
	locals := `(let (` + numbers(9, `("y#" Int 1)`) + ` ("t" ` + lists(100) + ` "t")) `
	nine := sum(each(9, `"y#"`)...)
	for what, body := range map[string]string{
		"what is given":           locals + sum(each(20, `(app (lam "x#" Int `+nine+`) 1)`)...) + `)`,
		"calls":                   locals + `(let (("h" (Int -> Int) (lam "x" Int ` + nine + `))) ` + sum(each(30, `(app "h" #)`)...) + `))`,
		"types":                   locals + sum(each(5, `(app (lam "x#" Int (seq "t" 1)) 1)`)...) + `)`,
		"a named function":        `(let (("h" (Int -> Int) (lam "x" Int (app "k" "n"))) ("k" (Int -> Int) (lam "y" Int (app "h" "m"))) ("n" Int 1) ("m" Int 2)) (op + (app "h" 1) (app "k" 2)))`,
		"nothing is given":        sum(each(10, `(app (lam "x#" Int 1) 1)`)...),
		"functions in each other": nested(10, `(app (lam "x#" Int (op + "x0" `, "1", `)) 1)`),
	} {
		p := read(t, def("f", body))
		q := lifted(t, p)
		if core.Size(q) <= core.Size(p) {
			t.Errorf("the test is wrong: %s: %d nodes ahead, %d behind", what, core.Size(p), core.Size(q))
			continue
		}
		for more := -2; more <= 3; more++ {
			want := api.OK
			if more > 0 {
				want = api.ErrBig
			}
			checkCode(t, fmt.Sprint(what, ", ", more, " above"), padded(t, p, api.MaxCore-core.Size(q)+more), want)
		}
	}
	// p as great as may be: nothing to do; something that becomes less: a let that goes
	p := padded(t, read(t, def("f", "1")), api.MaxCore-3)
	if core.Size(p) != api.MaxCore || !alike(lifted(t, p), p) {
		t.Error(core.Size(p), "nodes, of which all stay")
	}
	less := read(t, def("f", `(let (("h" (Int -> Int) (lam "x" Int "x"))) 1)`)) // the let goes, with the Bind; a definition comes, with its type
	less = padded(t, less, api.MaxCore-core.Size(less))
	if got := core.Size(lifted(t, less)); core.Size(less) != api.MaxCore || got != api.MaxCore-1 {
		t.Error(core.Size(less), "nodes, which become", got)
	}
	// far above: each of very many calls is given much
	checkCode(t, "very great", read(t, def("f", `(let (`+numbers(23, `("y#" Int 1)`)+` ("h" (Int -> Int) (lam "x" Int `+sum(each(23, `"y#"`)...)+`))) `+sum(each(20000, `(app "h" 1)`)...)+`)`)), api.ErrBig)
}

// TestMaxDeep: an expression of the answer is MaxDeep deep, or deeper: by a call, by what a function is given.
func TestMaxDeep(t *testing.T) {
	const most = api.MaxDeep
	locals := `(let (` + numbers(9, `("y#" Int 1)`) + `) `
	nine := sum(each(9, `"y#"`)...)
	for what, text := range map[string]func(n int) string{
		// of each the depth is told that the answer must come to
		"a call": func(n int) string {
			return def("f", locals+nested(n, `(seq 1 `, `(app (lam "x" Int `+nine+`) 1)`, ")")+`)`)
		},
		"a call of a named function": func(n int) string {
			return def("f", locals+`(let (("h" (Int -> Int) (lam "x" Int `+nine+`))) `+nested(n, `(seq 1 `, `(app "h" 1)`, ")")+`))`)
		},
		"what is given": func(n int) string {
			return def("f", locals+`(app (lam "x" Int `+nested(n, `(seq 1 `, nine, ")")+`) 1))`)
		},
		"an alternative's": func(n int) string {
			return def("f", `(case (fail 1 (Triple Int Int Int)) (con "Triple" ("a" "b" "c") (let (("h" (Int -> Int) (lam "x" Int (op + "c" (op + "b" `+nested(n, `(op + "a" `, "1", ")")+`))))) 1)))`)
		},
		"nothing to do": func(n int) string { return def("f", nested(n, `(seq 1 `, "1", ")")) },
		"a function's within": func(n int) string {
			return def("f", `(app (lam "x" Int `+locals+nested(n, `(seq 1 `, `(app (lam "z" Int `+nine+`) 1)`, ")")+`)) 1)`)
		},
	} {
		deepest := func(p api.Program) int {
			n := 0
			for _, d := range p.Defs {
				n = max(n, depth(d.Body))
			}
			return n
		}
		n := most - deepest(lifted(t, read(t, text(100)))) + 100
		if what != "nothing to do" && deepest(read(t, text(n))) >= most {
			t.Errorf("the test is wrong: %s: %d", what, deepest(read(t, text(n))))
		}
		if got := deepest(lifted(t, read(t, text(n)))); got != most {
			t.Errorf("%s: %d levels", what, got)
		}
		if what != "nothing to do" {
			checkCode(t, what, read(t, text(n+1)), api.ErrNest)
		}
	}
	// what becomes less deep, of as deep as may be
	p := read(t, def("f", nested(1000, `(let (("h#" (Int -> Int) (lam "x#" Int "x#"))) `, nested(2999, `(seq 1 `, "1", ")"), ")")))
	if q := lifted(t, p); depth(p.Defs[0].Body) != most || depth(q.Defs[0].Body) != 3000 || len(q.Defs) != 1001 {
		t.Error(depth(p.Defs[0].Body), depth(q.Defs[0].Body), len(q.Defs))
	}
}

// TestFirst: ErrBig of whatever definition ahead of ErrNest of whatever other one; both behind what bars p itself (TestPolyHard).
func TestFirst(t *testing.T) {
	deep := def("deep", `(let (`+numbers(9, `("y#" Int 1)`)+`) (app (lam "x" Int `+nested(3990, `(seq 1 `, sum(each(9, `"y#"`)...), ")")+`) 1))`)
	checkCode(t, "too deep", read(t, deep), api.ErrNest)
	name := strings.Repeat("n", api.MaxName)
	great := lists(498)
	for what, text := range map[string]string{
		"own lambdas":   `(def "w" () ` + arrows(25, "Int") + ` ` + lams(25, "x", "1") + `)`,
		"what is given": def("w", `(let (`+numbers(24, `("y#" Int 1)`)+`) (app (lam "x" Int `+sum(each(24, `"y#"`)...)+`) 1))`),
		"definitions":   numbers(api.MaxGlobals, def("d#", "1")),
		"a name":        def(name, `(app (lam "x" Int 1) 1)`),
		"a type":        def("w", `(let (("y" `+great+` "y")) (app (lam "x" Int (seq "y" 1)) 1))`),
		"size":          def("w", `(let (`+numbers(20, `("y#" Int 1)`)+` ("h" (Int -> Int) (lam "x" Int `+sum(each(20, `"y#"`)...)+`))) `+sum(each(5000, `(app "h" 1)`)...)+`)`),
	} {
		checkCode(t, what, read(t, text), map[bool]api.Errno{true: api.ErrBig, false: api.OK}[what != "definitions"])
		checkCode(t, what+", and too deep", read(t, text+deep), api.ErrBig)
		checkCode(t, "too deep, and "+what, read(t, deep+text), api.ErrBig)
	}
}

// TestSoon: W1: programs as great as may be, some of which would take very long, if each function were gone through for each around it, or all that it needs for each that needs it.
func TestSoon(t *testing.T) {
	locals := func(n int) string { return numbers(n, `("y#" Int 1)`) }
	all := func(n int) string { return sum(each(n, `"y#"`)...) }
	const name = `(Int -> Int)`
	within := nested(1200, `(let (("h#" `+name+` (lam "x#" Int (seq `, `(seq `+sum(append(each(1200, `(app "h#" 1)`), each(700, `(app "k#" 1)`)...)...)+` 1)`, ` 1)))) 1)`)
	flat := numbers(700, `("k#" `+name+` (lam "z#" Int (op + `+all(22)+` (app "k0" "z#"))))`)
	rows := numbers(1900, `("h#" `+name+` (lam "x#" Int (op + "x#" (app "h@" (app "h0" 1)))))`) + `("h1900" ` + name + ` (lam "x1900" Int ` + all(22) + `))`
	big := "(Pair Int " + lists(480) + ")"
	chain := func(n int, inner string) string {
		return nested(n, `(case "l#" (con "M.C" ("l@") `, inner, "))")
	}
	for _, x := range []struct {
		what, text string
	}{
		{"functions within one another, the innermost of which needs all", def("f", `(let (`+locals(22)+flat+`) `+within+`)`)},
		{"the same, given little", def("f", `(let (`+locals(1)+strings.ReplaceAll(flat, all(22), `"y0"`)+`) `+within+`)`)},
		{"functions within one another, each of which is given the same", def("f", `(let (`+locals(22)+`) `+nested(1990, `(app (lam "x#" Int `, all(22), `) 1)`)+`)`)},
		{"functions that need one another in a ring", def("f", `(let (`+locals(22)+rows+`) (app "h0" 1))`)},
		{"the same, given little", def("f", `(let (`+locals(1)+strings.ReplaceAll(rows, all(22), `"y0"`)+`) (app "h0" 1))`)},
		{"functions that need one another in a ring, and are needed very often", def("f", `(let (`+rows+locals(22)+`) `+sum(each(10000, `(app "h0" #)`)...)+`)`)},
		{"very many locals, spoken of deep within", def("f", `(let (`+locals(10000)+`) `+nested(1990, `(app (lam "x#" Int `, all(10000), `) 1)`)+`)`)},
		{"a local that is spoken of very often, deep within", def("f", `(let (("y" Int 1)) `+nested(1900, `(app (lam "x#" Int `, sum(each(30000, `"y"`)...), `) 1)`)+`)`)},
		{"very many functions that are not named, deep within", def("f", nested(1300, `(app (lam "x#" Int (op + `, "1", ` 1)) 1)`)+"")},
		{"functions that answer functions", `(def "f" () ` + arrows(240, "Int") + ` ` + nested(240, `(seq 1 (lam "x#" Int `, "1", `))`) + `)`},
		{"functions that are applied at once", def("f", nested(1990, `(app (lam "x#" Int `, "1", ") 1)"))},
		{"alternatives within one another", `(data M.T (a) ("M.C" (M.T ` + big + `)))` + def("f", `(let (("l0" (M.T `+big+`) "l0")) `+chain(3900, `(app (lam "x" Int (seq "l3900" 1)) 1)`)+`)`)},
		{"alternatives within one another, many times", `(data M.T (a) ("M.C" (M.T ` + big + `)))` + numbers(6, `(def "f#" () ((M.T `+big+`) -> Int) (lam "l0" (M.T `+big+`) `+chain(3000, `(app (lam "x" Int (seq "l2999" 1)) 1)`)+`))`)},
		{"very many definitions, each with a function", numbers(1000, def("d#", `(app (lam "x" Int (op + "x" 1)) #)`))},
		{"numbers that are passed over", numbers(1900, def("f$@", "1")) + def("f", sum(each(90, `(app (lam "x#" Int 1) 1)`)...))},
		{"very deep", fun("f", `(lam "x" Int `+nested(3990, `(op + "x" `, `(app (lam "y" Int "y") 1)`, ")")+`)`)},
	} {
		p := read(t, x.text)
		soon(t, x.what, func() {
			q, code := lift.Lift(p)
			if code != api.OK && code != api.ErrBig {
				t.Error(x.what, code)
			}
			t.Log(x.what, core.Size(p), code, len(q.Defs), core.Size(q))
		})
	}
}
