package strict_test

import (
	"testing"
)

// unknown is a function type with more than MaxLattice elements; flat is the next one within: a known one.
const (
	unknown = "(Int -> ((List Int) -> (List Int)))"
	flat    = "((List Int) -> (List Int))"
)

// TestConstructors: with all their fields: of Cons alone it matters what these come to.
func TestConstructors(t *testing.T) {
	checkElement(t, list, none, 3)
	for x := range 2 {
		for l := range 4 {
			want := []int{1, 1, 2, 2 + x}[l]
			checkElement(t, list, cons(numberOf(x), listOf(l)), want)
			checkElement(t, list, cons("1", cons(numberOf(x), listOf(l))), want)
			checkElement(t, list, cons(numberOf(x), cons("1", listOf(l))), want)
		}
	}
	for _, c := range []string{yes, `(con "Unit")`, app(`(con "Pair" Int Int)`, fail("Int"), fail("Int")), app(`(con "Triple" Int Int Int)`, "1", fail("Int"), "1"), app(`(con "Pair" (Int -> Int) (List Int))`, fail("(Int -> Int)"), fail(list))} {
		checkElement(t, "Bool", c, 1)
	}
}

// TestShortConstructors: a constructor that lacks fields is a function of them.
func TestShortConstructors(t *testing.T) {
	give := fn("give", "f "+flat+", l "+list, list, app(`"f"`, `"l"`))
	for x := range 2 {
		for l := range 4 {
			want := []int{1, 1, 2, 2 + x}[l]
			checkElement(t, list, global("give", app(`(con "Cons" Int)`, numberOf(x)), listOf(l)), want, give)
			checkElement(t, list, app(`(case 1 (else (app (con "Cons" Int) `+numberOf(x)+")))", listOf(l)), want)
			checkElement(t, list, `(let (("c" `+flat+` (app (con "Cons" Int) `+numberOf(x)+`))) (app "c" `+listOf(l)+"))", want)
			// as a function of two it is of an unknown type, which answers the greatest function
			checkElement(t, list, app(`(case 1 (else (con "Cons" Int)))`, numberOf(x), listOf(l)), 3)
		}
	}
	checkElement(t, "Bool", app(`(case 1 (else (con "Pair" Int Int)))`, fail("Int"), fail("Int")), 1)
	checkElement(t, "Bool", app(`(case 1 (else `+app(`(con "Triple" Int Int Int)`, fail("Int"))+`))`, fail("Int"), fail("Int")), 1)
	checkElement(t, "Int", seq(`(con "Cons" Int)`, "1"), 1)
	// a head of an unknown type is never nothing; one of a function type is, where it comes to 0
	lists := "((List " + unknown + ") -> (List " + unknown + "))"
	use := fn("use", "f "+lists, "Int", `(case (app "f" (con "Nil" `+unknown+`)) (con "Cons" ("x" "t") (case "t" (con "Nil" () 1))))`)
	checkElement(t, "Int", global("use", `(app (con "Cons" `+unknown+") "+fail(unknown)+")"), 1, use)
	lists = "((List (Int -> Int)) -> (List (Int -> Int)))"
	use = fn("use", "f "+lists, "Int", `(case (app "f" (con "Nil" (Int -> Int))) (con "Cons" ("x" "t") (case "t" (con "Nil" () (app "x" 1)))))`)
	for f, text := range []string{fail("(Int -> Int)"), `(global "id")`, `(global "one")`} {
		checkElement(t, "Int", global("use", `(app (con "Cons" (Int -> Int)) `+text+")"), min(f, 1), use)
	}
}

// TestCalls: a definition with just as many arguments as it takes, with more, with fewer.
func TestCalls(t *testing.T) {
	pick := fn("pick", "x Int", "(Int -> Int)", seq(`"x"`, `(global "id")`)) // one parameter, though it takes two
	caf := fn("caf", "", "(Int -> Int)", `(global "id")`)
	for x := range 2 {
		for y := range 2 {
			a, b := numberOf(x), numberOf(y)
			checkElement(t, "Int", global("add", a, b), x*y)
			checkElement(t, "Int", global("const", a, b), x)
			checkElement(t, "Int", app(`(case 1 (else `+global("add", a)+`))`, b), x*y)
			checkElement(t, "Int", app(`(case 1 (else `+global("const", a)+`))`, b), x)
			checkElement(t, "Int", app(`(case 1 (else (global "add")))`, a, b), x*y)
			checkElement(t, "Int", app(`(case 1 (else (global "const")))`, a, b), x)
			checkElement(t, "Int", global("pick", a, b), x*y, pick)
			checkElement(t, "Int", app(`(case 1 (else (global "pick")))`, a, b), x*y, pick)
			checkElement(t, "Int", app(`(case 1 (else `+global("pick", a)+`))`, b), x*y, pick)
			checkElement(t, "Int", global("ap", `(global "id")`, a), x)
			checkElement(t, "Int", global("ap", `(global "one")`, a), 1)
			checkElement(t, "Int", global("ap", global("add", a), b), x*y)
			checkElement(t, "Int", global("ap", global("pick", a), b), x*y, pick)
			checkElement(t, "Int", global("ap", fail("(Int -> Int)"), a), 0)
		}
		checkElement(t, "Int", global("caf", numberOf(x)), x, caf)
		checkElement(t, "Int", global("ap", `(global "caf")`, numberOf(x)), x, caf)
	}
	checkAll(t, pick+caf+library[1:len(library)-1]+fn("last", "x Int", "Int", global("pick", `"x"`, "1")),
		"pick: 0; caf: ; len: 2; sum: 3; head: 1; add: 1 1; const: 1 0; id: 1; one: 0; ap: 1 0; last: 1")
}

// TestThree: of three arguments each number is given, some by a name in between.
func TestThree(t *testing.T) {
	three := fn("three", "x Int, y Int, z Int", "Int", `(case "x" (int 1 "y") (else (op + "y" "z")))`)
	for x := range 2 {
		for y := range 2 {
			for z := range 2 {
				a, b, c, want := numberOf(x), numberOf(y), numberOf(z), x*y
				checkElement(t, "Int", global("three", a, b, c), want, three)
				checkElement(t, "Int", app(`(case 1 (else (global "three")))`, a, b, c), want, three)
				checkElement(t, "Int", app(`(case 1 (else `+global("three", a)+`))`, b, c), want, three)
				checkElement(t, "Int", app(`(case 1 (else `+global("three", a, b)+`))`, c), want, three)
				checkElement(t, "Int", `(let (("f" (Int -> (Int -> Int)) `+global("three", a)+`) ("g" (Int -> Int) (app "f" `+b+`))) (app "g" `+c+`))`, want, three)
			}
		}
	}
}

// TestUnknownFunctions: of a function of an unknown type nothing is known: it answers the greatest.
func TestUnknownFunctions(t *testing.T) {
	zero := fn("zero", "n Int, l "+list, list, fail(list))
	give := fn("give", "f "+unknown+", n Int, l "+list, list, app(`"f"`, `"n"`, `"l"`))
	for l := range 4 {
		// all functions of that type come to the one element; the next one within is known, and the greatest
		checkElement(t, list, global("zero", "1", listOf(l)), 0, zero)
		checkElement(t, list, global("give", `(global "zero")`, "1", listOf(l)), 3, zero, give)
		checkElement(t, list, global("give", fail(unknown), fail("Int"), listOf(l)), 3, give)
		checkElement(t, list, app(fail(unknown), "1", listOf(l)), 3)
		checkElement(t, list, app(fail(flat), listOf(l)), 0)
		checkElement(t, list, app(`(case 1 (else `+global("zero", "1")+`))`, listOf(l)), 0, zero) // of a known type
		checkElement(t, list, app(`(case 1 (else (global "zero")))`, "1", listOf(l)), 3, zero)
	}
	checkAll(t, give+zero, "give: 0 0 0; zero: 2 4")
	// as a result
	from := fn("from", "n Int", unknown, seq(`"n"`, `(global "zero")`))
	checkElement(t, list, global("from", fail("Int"), "1", none), 3, from, zero)
	checkElement(t, "Int", seq(global("from", fail("Int")), "1"), 1, from, zero)
	checkAll(t, from+zero, "from: 0; zero: 2 4")
	// two that are unknown, one within the other
	const more = "((List Int) -> " + unknown + ")"
	for l := range 4 {
		checkElement(t, list, app(fail(more), fail(list), "1", listOf(l)), 3)
	}
	// an unknown type as an argument has one element, and does not make its function known
	checkElement(t, "Int", app(fail("("+unknown+" -> Int)"), fail(unknown)), 1)
	eat := fn("eat", "f "+unknown+", x Int", "Int", `"x"`)
	for x := range 2 {
		checkElement(t, "Int", global("eat", fail(unknown), numberOf(x)), x, eat)
		checkElement(t, "Int", app(`(case 1 (else `+global("eat", fail(unknown))+`))`, numberOf(x)), x, eat)
		checkElement(t, "Int", app(`(case 1 (else (global "eat")))`, fail(unknown), numberOf(x)), 1, eat)
	}
	checkAll(t, eat, "eat: 0 1")
}

// TestNotKnownCalls: a definition that is not known answers the greatest, with all its arguments or with fewer.
func TestNotKnownCalls(t *testing.T) {
	const lists = "a (List Int), b (List Int), c (List Int), d (List Int), e (List Int), f (List Int)"
	many := fn("many", lists, list, fail(list)) // 4096 points
	all := []string{none, none, none, none, none, none}
	checkElement(t, list, global("many", all...), 3, many)
	for l := range 4 {
		checkElement(t, list, app(`(case 1 (else `+global("many", all[:5]...)+`))`, listOf(l)), 3, many)
	}
	checkElement(t, list, app(`(case 1 (else `+global("many", all[:3]...)+`))`, none, none, none), 3, many) // of an unknown type
	far := fn("far", lists, "(Int -> Int)", fail("(Int -> Int)"))
	for x := range 2 {
		checkElement(t, "Int", global("far", append(all, numberOf(x))...), 1, far)
		checkElement(t, "Int", app(`(case 1 (else `+global("far", all...)+`))`, numberOf(x)), 1, far)
	}
	wide := fn("wide", lists, unknown, fail(unknown))
	checkElement(t, list, global("wide", append(all, "1", none)...), 3, wide)
	checkElement(t, "Int", seq(global("wide", all...), "1"), 1, wide)
	checkAll(t, many+far+wide+fn("use", "x Int", list, global("many", all...))+fn("use2", "x Int", "Int", seq(`"x"`, global("far", append(all, `"x"`)...))),
		"many: ?; far: ?; wide: ?; use: 0; use2: 1")
	// what it needs is known, and what needs it
	deep := fn("deep", lists, "Int", global("add", global("sum", `"a"`), "1"))
	checkAll(t, deep+library[1:]+fn("use", "x Int", "Int", global("add", `"x"`, global("deep", all...))), "deep: ?; len: 2; sum: 3; head: 1; add: 1 1; const: 1 0; id: 1; one: 0; ap: 1 0; use: 1")
}

// TestHandedOn: functions that are handed on, and what is known of them.
func TestHandedOn(t *testing.T) {
	twice := fn("twice", "f (Int -> Int), x Int", "Int", app(`"f"`, app(`"f"`, `"x"`)))
	with := fn("with", "f ((Int -> Int) -> Int), g (Int -> Int)", "Int", app(`"f"`, `"g"`))
	first := fn("first", "g (Int -> Int)", "Int", app(`"g"`, "1"))
	blind := fn("blind", "g (Int -> Int)", "Int", "1")
	flip := fn("flip", "f (Int -> (Int -> Int)), x Int, y Int", "Int", app(`"f"`, `"y"`, `"x"`))
	fold := fn("fold", "f (Int -> (Int -> Int)), z Int, l "+list, "Int", `(case "l" (con "Nil" () "z") (con "Cons" ("x" "t") `+app(`"f"`, `"x"`, global("fold", `"f"`, `"z"`, `"t"`))+"))")
	checkAll(t, twice+with+first+blind+flip+fold, "twice: 1 0; with: 1 0; first: 1; blind: 0; flip: 1 0 0; fold: 0 0 1")
	for x := range 2 {
		a := numberOf(x)
		checkElement(t, "Int", global("twice", `(global "id")`, a), x, twice)
		checkElement(t, "Int", global("twice", `(global "one")`, a), 1, twice)
		checkElement(t, "Int", global("twice", global("add", a), "1"), x, twice)
		checkElement(t, "Int", global("with", `(global "first")`, global("add", a)), x, with, first)
		checkElement(t, "Int", global("with", `(global "blind")`, global("add", a)), 1, with, blind)
		checkElement(t, "Int", global("with", `(global "blind")`, fail("(Int -> Int)")), 1, with, blind)
		checkElement(t, "Int", global("flip", `(global "const")`, a, "1"), 1, flip)
		checkElement(t, "Int", global("flip", `(global "const")`, "1", a), x, flip)
		checkElement(t, "Int", global("fold", `(global "add")`, "0", cons("1", cons(a, none))), x, fold)
		checkElement(t, "Int", global("fold", `(global "const")`, "0", cons("1", cons(a, none))), 1, fold)
		checkElement(t, "Int", global("fold", `(global "add")`, a, none), x, fold)
	}
	checkElement(t, "Int", global("fold", `(global "add")`, "0", cons("1", fail(list))), 0, fold)
	checkElement(t, "Int", global("fold", `(global "const")`, "0", cons("1", fail(list))), 1, fold)
}
