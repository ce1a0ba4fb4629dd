package strict_test

import (
	"fmt"
	"strings"
	"testing"
)

// TestExamples: P15.1: the chapter's.
func TestExamples(t *testing.T) {
	for _, x := range []struct{ text, want string }{
		{fn("add", "x Int, y Int", "Int", `(op + "x" "y")`), "1 1"},
		{fn("k", "x Int, y Int", "Int", `"x"`), "1 0"},
		{fn("s", "x Int, y Int", "Int", `(seq "x" "y")`), "1 1"},
		{fn("f", "c Bool, x Int, y Int", "Int", `(case "c" (con "True" () (op + "x" "y")) (con "False" () "x"))`), "1 1 0"},
		{fn("loop", "x Int", "Int", global("loop", `"x"`)), "2"},
		{fn("z", "x Int", "Int", fail("Int")), "2"},
		{fn("fac", "n Int", "Int", `(case (op == "n" 0) (con "True" () 1) (con "False" () (op * "n" `+global("fac", `(op - "n" 1)`)+`)))`), "1"},
		{fn("len", "l "+list, "Int", `(case "l" (con "Nil" () 0) (con "Cons" ("x" "t") (op + 1 `+global("len", `"t"`)+`)))`), "2"},
		{fn("sum", "l "+list, "Int", `(case "l" (con "Nil" () 0) (con "Cons" ("x" "t") (op + "x" `+global("sum", `"t"`)+`)))`), "3"},
		{fn("head", "l "+list, "Int", `(case "l" (con "Cons" ("x" "t") "x"))`), "1"},
		{fn("map", "f (Int -> Int), l "+list, list, `(case "l" (con "Nil" () `+none+`) (con "Cons" ("x" "t") `+cons(app(`"f"`, `"x"`), global("map", `"f"`, `"t"`))+`))`), "0 1"},
		{fn("rev", "l "+list+", a "+list, list, `(case "l" (con "Nil" () "a") (con "Cons" ("x" "t") `+global("rev", `"t"`, cons(`"x"`, `"a"`))+`))`), "2 0"},
		{fn("ap", "f (Int -> Int), x Int", "Int", app(`"f"`, `"x"`)), "1 0"},
		{fn("p", "x Int", "(Int -> Int)", global("add", `"x"`)) + fn("add", "x Int, y Int", "Int", `(op + "x" "y")`), "0"},
	} {
		checkFirst(t, x.text, x.want)
	}
}

// TestNothing: P15.1: no definition, and definitions without parameters.
func TestNothing(t *testing.T) {
	checkAll(t, "", "")
	checkAll(t, `(data M.T (a) ("M.A" a))`, "")
	checkAll(t, fn("a", "", "Int", "1")+fn("b", "", "(Int -> Int)", `(global "b")`)+fn("c", "", list, fail(list)), "a: ; b: ; c: ")
}

// The kinds of types that something has which is worked out first: with an expression of each element that can be told.
func firsts() []struct {
	typ      string
	elements []string
	isPlain  bool
} {
	const greatest = "(Int -> ((List Int) -> (List Int)))" // unknown
	return []struct {
		typ      string
		elements []string
		isPlain  bool
	}{
		{"Int", []string{numberOf(0), numberOf(1)}, true},
		{"Bool", []string{fail("Bool"), yes}, true},
		{"(Pair Int Int)", []string{fail("(Pair Int Int)"), app(`(con "Pair" Int Int)`, fail("Int"), fail("Int"))}, true},
		{list, []string{listOf(0), listOf(1), listOf(2), listOf(3)}, true},
		{"(Int -> Int)", []string{fail("(Int -> Int)"), `(global "id")`, `(global "one")`}, false},
		{greatest, []string{fail(greatest)}, false},
	}
}

// TestLeaves: a number, what is stuck in each way, of each type, and names.
func TestLeaves(t *testing.T) {
	for _, n := range []string{"0", "1", "-5", "4611686018427387903"} {
		checkElement(t, "Int", n, 1)
	}
	for num := 1; num <= 4; num++ {
		checkElement(t, "Int", fmt.Sprint("(fail ", num, " Int)"), 0)
		checkElement(t, list, fmt.Sprint("(fail ", num, " (List Int))"), 0)
		checkElement(t, "(Pair Int Bool)", fmt.Sprint("(fail ", num, " (Pair Int Bool))"), 0)
		checkElement(t, "Int", app(fmt.Sprint("(fail ", num, " (Int -> Int))"), "1"), 0)
	}
	for e := range 4 {
		checkElement(t, list, listOf(e), e)
		checkElement(t, list, `(let (("l" (List Int) `+listOf(e)+`)) "l")`, e)
	}
	checkAll(t, fn("a", "x Int", "Int", `"x"`)+fn("b", "x Int, y Int", "Int", `"y"`)+fn("c", "x Int", list, none)+fn("d", "x "+list, list, `"x"`)+fn("e", "x Bool, y (Pair Int Int), z Unit", "(Pair Int Int)", `"y"`),
		"a: 1; b: 0 1; c: 0; d: 1; e: 0 1 0")
}

// TestOperators: 1, if both operands come to 1.
func TestOperators(t *testing.T) {
	for _, name := range strings.Fields("+ - * / % == /= < <= > >=") {
		of := "Int"
		if strings.ContainsAny(name, "=<>") {
			of = "Bool"
		}
		for a := range 2 {
			for b := range 2 {
				checkElement(t, of, "(op "+name+" "+numberOf(a)+" "+numberOf(b)+")", a*b)
			}
		}
		checkFirst(t, fn("f", "x Int, y Int, z Int", of, "(op "+name+` "x" "z")`), "1 0 1")
	}
	checkElement(t, "Int", "(op / 1 0)", 1) // that it is stuck is not seen
}

// TestSeq: only of a plain type does it matter that the first comes to nothing.
func TestSeq(t *testing.T) {
	for _, x := range firsts() {
		for e, first := range x.elements {
			for second := range 4 {
				want := second
				if e == 0 && x.isPlain {
					want = 0
				}
				checkElement(t, list, seq(first, listOf(second)), want)
				checkElement(t, "Int", app(seq(first, `(global "id")`), numberOf(second%2)), min(want, second%2, 1))
			}
		}
	}
	checkAll(t, fn("a", "f (Int -> Int), x Int", "Int", seq(`"f"`, `"x"`))+fn("b", "f (Int -> Int), x Int", "Int", seq(`"x"`, app(`"f"`, "1")))+fn("c", "l "+list+", x Int", "Int", seq(`"l"`, `"x"`)), "a: 0 1; b: 1 1; c: 1 1")
}

// TestHard: as TestSeq; the name has the value's element.
func TestHard(t *testing.T) {
	for _, x := range firsts() {
		for e, first := range x.elements {
			for second := range 4 {
				want := second
				if e == 0 && x.isPlain {
					want = 0
				}
				checkElement(t, list, `(hard "h" `+x.typ+" "+first+" "+listOf(second)+")", want)
			}
		}
	}
	for e := range 4 {
		checkElement(t, list, `(hard "h" (List Int) `+listOf(e)+` "h")`, e)
		checkElement(t, "Int", `(hard "h" (List Int) `+listOf(e)+` `+global("sum", `"h"`)+`)`, e/3)
	}
	for x := range 2 {
		checkElement(t, "Int", `(hard "h" (Int -> Int) (global "id") (app "h" `+numberOf(x)+`))`, x)
		checkElement(t, "Int", `(hard "h" (Int -> Int) `+fail("(Int -> Int)")+` (app "h" `+numberOf(x)+`))`, 0)
		checkElement(t, "Int", `(hard "h" Int 1 (hard "k" Int (op + "h" `+numberOf(x)+`) 1))`, x)
	}
	checkFirst(t, fn("f", "x Int, g (Int -> Int), y Int", "Int", `(hard "h" Int (app "g" "x") (hard "k" (Int -> Int) "g" "y"))`), "0 1 1")
}

// TestLet: values that speak of no name of their let, of one ahead, of one behind, of themselves.
func TestLet(t *testing.T) {
	for _, x := range []struct {
		typ, binds, body string
		want             int
	}{
		{"Int", `("a" Int 1)`, `"a"`, 1},
		{"Int", `("a" Int (fail 1 Int))`, `1`, 1},
		{"Int", `("a" Int (fail 1 Int))`, `"a"`, 0},
		{"Int", `("a" Int 1) ("b" Int (fail 1 Int))`, `"a"`, 1},
		{"Int", `("a" Int 1) ("b" Int (fail 1 Int))`, `"b"`, 0},
		{"Int", `("a" Int 1) ("b" Int (op + "a" 1))`, `"b"`, 1},
		{"Int", `("b" Int (op + "a" 1)) ("a" Int 1)`, `"b"`, 1},
		{"Int", `("d" Int "c") ("c" Int "b") ("b" Int "a") ("a" Int 1)`, `"d"`, 1},
		{"Int", `("d" Int "c") ("c" Int "b") ("b" Int "a") ("a" Int (fail 1 Int))`, `"d"`, 0},
		{"Int", `("a" Int "a")`, `"a"`, 0},
		{"Int", `("a" Int (op + "a" 1))`, `"a"`, 0},
		{"Int", `("a" Int (op + "a" 1))`, `1`, 1},
		{"Int", `("a" Int "b") ("b" Int "a")`, `"b"`, 0},
		{"Int", `("a" Int "b") ("b" Int (case 1 (int 1 "a") (else 2)))`, `"a"`, 1},
		{list, `("l" (List Int) ` + cons("1", `"l"`) + `)`, `"l"`, 1},
		{list, `("l" (List Int) ` + cons("1", cons("2", `"l"`)) + `)`, `"l"`, 1},
		{list, `("l" (List Int) (case 1 (int 1 ` + none + `) (else ` + cons("1", `"l"`) + `)))`, `"l"`, 3},
		{list, `("l" (List Int) (case 1 (int 1 ` + none + `) (else ` + cons(fail("Int"), `"l"`) + `)))`, `"l"`, 3},
		{list, `("l" (List Int) (case 1 (int 1 ` + cons(fail("Int"), none) + `) (else ` + cons("1", `"l"`) + `)))`, `"l"`, 2},
		{list, `("l" (List Int) (case 1 (int 1 "k") (else ` + cons("1", `"k"`) + `))) ("k" (List Int) (case 1 (int 1 ` + fail(list) + `) (else ` + cons("1", `"l"`) + `)))`, `"l"`, 1},
		{"Int", `("f" (Int -> Int) ` + global("add", `"n"`) + `) ("n" Int 1)`, app(`"f"`, "1"), 1},
		{"Int", `("f" (Int -> Int) ` + global("add", `"n"`) + `) ("n" Int (app "f" 1))`, app(`"f"`, "1"), 0},
		{"Int", `("f" (Int -> Int) "f")`, app(`"f"`, "1"), 0},
		{"Int", `("f" (Int -> Int) (case 1 (int 1 (global "id")) (else "f")))`, app(`"f"`, "1"), 1},
		{"Int", `("f" (Int -> Int) (case 1 (int 1 (global "id")) (else "f")))`, app(`"f"`, fail("Int")), 0},
		{"Int", `("u" (Int -> ((List Int) -> (List Int))) "u")`, seq(`"u"`, "1"), 1},
		{list, `("u" (Int -> ((List Int) -> (List Int))) "u")`, app(`"u"`, "1", none), 3},
	} {
		checkElement(t, x.typ, "(let ("+x.binds+") "+x.body+")", x.want)
	}
	// what was found at one point is forgotten at the next, and what was found of one head and tail at the other ones
	least := `(let (("a" Int (case 1 (int 1 "a") (else "y")))) "a")`
	checkFirst(t, fn("f", "x Int, y Int", "Int", least), "0 1")
	checkFirst(t, fn("f", "y Int, x Int", "Int", least), "1 0")
	checkElement(t, "Int", "(case "+listOf(2)+` (con "Cons" ("y" "t") `+seq(least, global("sum", `"t"`))+"))", 0)
	// within one another: the inner one is worked out anew for each try of the outer one
	inner := `(let (("b" (List Int) (case 1 (int 1 "a") (int 2 "b") (else ` + none + `)))) ` + cons("1", `"b"`) + `)`
	checkElement(t, list, `(let (("a" (List Int) `+inner+`)) "a")`, 3)
	inner = `(let (("b" (List Int) (case 1 (int 1 "a") (else "b")))) ` + cons("1", `"b"`) + `)`
	checkElement(t, list, `(let (("a" (List Int) `+inner+`)) "a")`, 1)
}
