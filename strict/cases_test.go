package strict_test

import (
	"fmt"
	"testing"
)

// TestNumberCases: of a number that is not nothing all alternatives count.
func TestNumberCases(t *testing.T) {
	for seen := range 2 {
		for a := range 4 {
			checkElement(t, list, "(case "+numberOf(seen)+" (int 1 "+listOf(a)+"))", seen*a)
			checkElement(t, list, "(case "+numberOf(seen)+" (else "+listOf(a)+"))", seen*a)
			for b := range 4 {
				checkElement(t, list, "(case "+numberOf(seen)+" (int 1 "+listOf(a)+") (else "+listOf(b)+"))", seen*max(a, b))
				checkElement(t, list, "(case "+numberOf(seen)+" (int 1 "+listOf(a)+") (int 5 "+listOf(0)+") (int 2 "+listOf(b)+"))", seen*max(a, b))
			}
		}
	}
	checkFirst(t, fn("f", "n Int, a Int, b Int", "Int", `(case "n" (int 0 "a") (int 1 (op + "a" "b")) (else "a"))`), "1 1 0")
	checkFirst(t, fn("f", "n Int, a Int, b Int", "Int", `(case "n" (int 0 (fail 1 Int)) (int 1 (op + "a" "b")))`), "1 1 1")
	checkFirst(t, fn("f", "n Int, a "+list, list, `(case "n" (int 0 (fail 1 (List Int))) (else "a"))`), "1 1")
}

// TestFunctionCases: alternatives that are functions are joined argument by argument.
func TestFunctionCases(t *testing.T) {
	functions := []string{fail("(Int -> Int)"), `(global "id")`, `(global "one")`}
	for a, f := range functions {
		for b, g := range functions {
			for x := range 2 {
				made := func(f int) int { return []int{0, x, 1}[f] }
				checkElement(t, "Int", app("(case 1 (int 1 "+f+") (else "+g+"))", numberOf(x)), max(made(a), made(b)))
			}
		}
	}
	// of two functions of two arguments, neither of which is below the other: both arguments are needed of neither
	both := "(case 1 (int 1 (global \"const\")) (else (global \"second\")))"
	second := fn("second", "x Int, y Int", "Int", `"y"`)
	for x := range 2 {
		for y := range 2 {
			checkElement(t, "Int", app(both, numberOf(x), numberOf(y)), max(x, y), second)
		}
	}
	// an unknown type has one element
	const unknown = "((List Int) -> ((List Int) -> Int))"
	checkElement(t, "Int", app("(case 1 (int 1 "+fail(unknown)+") (else "+fail(unknown)+"))", none, none), 1)
	checkElement(t, "Int", app("(case "+fail("Int")+" (else "+fail(unknown)+"))", none, none), 1)
}

// TestListCases: at each element of a list the alternatives that count, all that may be there.
func TestListCases(t *testing.T) {
	for seen := range 4 {
		for there := 1; there < 8; there++ {
			for a := range 4 {
				for b := range 4 {
					c := (a + b + there) % 4
					checkListCase(t, seen, there, a, b, c)
				}
			}
		}
	}
}

// checkListCase: there says which alternatives are there: of Nil (1), of Cons (2), AltElse (4), with bodies that come to those elements.
func checkListCase(t *testing.T, seen, there, empty, longer, other int) {
	t.Helper()
	text, all, behind := "", 0, 0
	if there&1 > 0 {
		text += `(con "Nil" () ` + listOf(empty) + ")"
		all = max(all, empty)
	}
	if there&2 > 0 {
		text += ` (con "Cons" ("x" "t") ` + listOf(longer) + ")"
		all = max(all, longer)
		behind = longer
	}
	if there&4 > 0 {
		text += " (else " + listOf(other) + ")"
		all = max(all, other)
		if there&2 == 0 {
			behind = other
		}
	}
	checkElement(t, list, "(case "+listOf(seen)+" "+text+")", []int{0, behind, behind, all}[seen])
	if there == 3 { // the order of the alternatives does not matter
		checkElement(t, list, "(case "+listOf(seen)+` (con "Cons" ("x" "t") `+listOf(longer)+`) (con "Nil" () `+listOf(empty)+"))", []int{0, behind, behind, all}[seen])
	}
}

// TestHeadTail: the elements of the names of Cons at each element of the list.
func TestHeadTail(t *testing.T) {
	for _, x := range []struct {
		typ, body string
		want      [4]int
	}{
		{"Int", `"x"`, [4]int{0, 1, 1, 1}},
		{list, `"t"`, [4]int{0, 1, 3, 3}},
		{list, seq(`"x"`, `"t"`), [4]int{0, 1, 2, 3}},
		{list, cons(`"x"`, `"t"`), [4]int{0, 1, 2, 3}},
		{list, cons("1", `"t"`), [4]int{0, 1, 3, 3}},
		{list, cons(`"x"`, none), [4]int{0, 3, 3, 3}},
		{"Int", global("len", `"t"`), [4]int{0, 0, 1, 1}},
		{"Int", global("sum", `"t"`), [4]int{0, 0, 1, 1}},
		{"Int", `(op + "x" ` + global("len", `"t"`) + ")", [4]int{0, 0, 1, 1}},
		{"Int", `(op + "x" ` + global("sum", `"t"`) + ")", [4]int{0, 0, 0, 1}},
		{"Int", seq(`"t"`, `"x"`), [4]int{0, 1, 1, 1}},
		{"Int", "1", [4]int{0, 1, 1, 1}},
		{"Int", fail("Int"), [4]int{}},
	} {
		for seen, want := range x.want {
			checkElement(t, x.typ, "(case "+listOf(seen)+` (con "Cons" ("x" "t") `+x.body+"))", want)
			checkElement(t, x.typ, "(case "+listOf(seen)+` (con "Cons" ("x" "t") `+x.body+") (else "+fail(x.typ)+"))", want)
		}
	}
	// names of two lists, one within the other
	both := func(a, b int) string {
		return "(case " + listOf(a) + ` (con "Cons" ("x" "t") (case ` + listOf(b) + ` (con "Cons" ("y" "u") (op + (op + "x" ` + global("sum", `"t"`) + `) (op + "y" ` + global("sum", `"u"`) + `))))))`
	}
	for a := range 4 {
		for b := range 4 {
			checkElement(t, "Int", both(a, b), (a/3)*(b/3))
		}
	}
}

// TestHeads: lists of other things: what the head has as its greatest element and as 0.
func TestHeads(t *testing.T) {
	for _, x := range []struct {
		of, nothing, whole, body string
		want                     [4]int
	}{
		{"Bool", fail("Bool"), yes, `(case "x" (con "True" () 1))`, [4]int{0, 1, 1, 1}},
		{list, fail(list), listOf(3), global("sum", `"x"`), [4]int{0, 1, 1, 1}},
		{list, fail(list), listOf(3), seq(`"x"`, global("rest", `"t"`)), [4]int{0, 0, 0, 1}},
		{"(Int -> Int)", fail("(Int -> Int)"), `(global "one")`, app(`"x"`, fail("Int")), [4]int{0, 1, 1, 1}},
		{"(Int -> Int)", fail("(Int -> Int)"), `(global "one")`, seq(app(`"x"`, "1"), global("rest", `"t"`)), [4]int{0, 0, 0, 1}},
		{"(Int -> Int)", fail("(Int -> Int)"), `(global "one")`, seq(`"x"`, global("rest", `"t"`)), [4]int{0, 0, 1, 1}}, // a function is never nothing here
	} {
		tail := "(List " + x.of + ")"
		rest := fn("rest", "r "+tail, "Int", `(case "r" (con "Nil" () 1) (con "Cons" ("x" "t") `+x.body+`))`)
		c, n := `(con "Cons" `+x.of+`)`, `(con "Nil" `+x.of+`)`
		for seen, made := range []string{fail(tail), app(c, x.whole, fail(tail)), app(c, x.nothing, n), app(c, x.whole, n)} {
			checkElement(t, "Int", "(case "+made+` (con "Cons" ("x" "t") `+x.body+`))`, x.want[seen], rest)
		}
	}
	// of an unknown type no head is nothing: the list comes to 3, or to what its tail comes to
	const unknown = "((List Int) -> ((List Int) -> Int))"
	c, n, all := `(con "Cons" `+unknown+`)`, `(con "Nil" `+unknown+`)`, "(List "+unknown+")"
	use := fn("use", "l "+all, "Int", `(case "l" (con "Nil" () 1) (con "Cons" ("x" "t") (op + `+app(`"x"`, none, none)+" "+global("use", `"t"`)+`)))`)
	checkFirst(t, use, "2")
	checkElement(t, "Int", global("use", app(c, fail(unknown), n)), 1, use)
	checkElement(t, "Int", global("use", app(c, fail(unknown), fail(all))), 0, use)
	checkElement(t, "Int", global("use", app(c, fail(unknown), app(c, fail(unknown), fail(all)))), 0, use)
}

// TestDataCases: of something that is not nothing all alternatives count, and its fields are as great as may be.
func TestDataCases(t *testing.T) {
	const unknown = "((List Int) -> ((List Int) -> Int))"
	datas := `(data M.T (a b) ("M.A" a (List b) (a -> b)) ("M.B" ` + unknown + `) ("M.C") ("M.D" (M.T b a)))`
	const one, two = "(M.T Int Int)", "(M.T (Int -> Int) (List Int))"
	for _, x := range []struct {
		of, alts string
		want     int
	}{
		{one, `(con "M.A" ("x" "y" "z") "x")`, 1},
		{one, `(con "M.A" ("x" "y" "z") ` + global("sum", `"y"`) + ")", 1},
		{one, `(con "M.A" ("x" "y" "z") (app "z" (fail 1 Int)))`, 1},
		{one, `(con "M.A" ("x" "y" "z") (fail 1 Int))`, 0},
		{one, `(con "M.A" ("x" "y" "z") (fail 1 Int)) (con "M.C" () 1)`, 1},
		{one, `(con "M.A" ("x" "y" "z") (fail 1 Int)) (else 1)`, 1},
		{one, `(con "M.C" () (fail 1 Int)) (con "M.D" ("e") (case "e" (con "M.A" ("x" "y" "z") "x")))`, 1},
		{one, `(con "M.B" ("u") (app (app "u" ` + fail(list) + ") " + fail(list) + "))", 1},
		{two, `(con "M.A" ("x" "y" "z") (app "x" (fail 1 Int)))`, 1},
		{two, `(con "M.A" ("x" "y" "z") (case "y" (con "Cons" ("h" "t") ` + global("sum", `"h"`) + ")))", 1},
		{two, `(con "M.A" ("x" "y" "z") ` + global("sum", app(`"z"`, fail("(Int -> Int)"))) + ")", 1},
		{two, `(con "M.D" ("e") (case "e" (con "M.A" ("x" "y" "z") (case "y" (con "Cons" ("h" "t") (app "h" (fail 1 Int)))))))`, 1},
		{two, `(else 1)`, 1}, {two, `(else (fail 1 Int))`, 0},
	} {
		checkFirst(t, datas+fn("f", "d "+x.of, "Int", `(case "d" `+x.alts+")")+library, fmt.Sprint(2-x.want))
	}
	for a := range 4 {
		for b := range 4 {
			for seen, c := range []string{fail("Bool"), yes} {
				checkElement(t, list, "(case "+c+` (con "True" () `+listOf(a)+`) (con "False" () `+listOf(b)+"))", seen*max(a, b))
				checkElement(t, list, "(case "+c+` (con "False" () `+listOf(a)+`) (else `+listOf(b)+"))", seen*max(a, b))
			}
		}
	}
	// what a constructor holds is not known behind a case of it
	checkElement(t, "Int", "(case "+app(`(con "Pair" Int Int)`, fail("Int"), "1")+` (con "Pair" ("a" "b") (op + "a" "b")))`, 1)
	checkFirst(t, fn("f", "p (Pair Int Int), q (Triple Int Bool Unit)", "Int", `(case "p" (con "Pair" ("a" "b") (case "q" (con "Triple" ("x" "y" "z") "x"))))`), "1 1")
}
