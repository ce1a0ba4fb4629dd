package strict_test

import (
	"fmt"
	"strings"
	"testing"
)

// TestAlone: definitions that need themselves.
func TestAlone(t *testing.T) {
	for _, x := range []struct{ text, want string }{
		{fn("f", "", "Int", `(global "f")`), ""},
		{fn("f", "x Int, y Int", "Int", `(case "x" (int 0 "y") (else `+global("f", `(op - "x" 1)`, `"y"`)+"))"), "1 1"},
		{fn("f", "x Int, y Int", "Int", `(case "x" (int 0 "y") (else `+global("f", `(op - "x" 1)`, "2")+"))"), "1 0"},
		{fn("f", "x Int, y Int", "Int", `(case "x" (int 0 1) (else `+global("f", `"y"`, `"x"`)+"))"), "1 0"},
		{fn("f", "x Int, y Int, z Int", "Int", `(case "x" (int 0 "z") (else `+global("f", `"y"`, `"z"`, `"x"`)+"))"), "1 0 0"},
		{fn("f", "x Int, y Int", "Int", `(case "x" (int 0 `+global("f", `"y"`, `"x"`)+") (else "+global("f", `"x"`, `"y"`)+"))"), "2 2"},
		{fn("f", "x Int", list, cons(`"x"`, global("f", `(op + "x" 1)`))), "0"},
		{fn("f", "l "+list, list, `(case "l" (con "Nil" () "l") (con "Cons" ("x" "t") `+global("f", `"t"`)+"))"), "2"},
		{fn("f", "l "+list, list, `(case "l" (con "Nil" () "l") (con "Cons" ("x" "t") (seq "x" `+global("f", `"t"`)+")))"), "3"},
		{fn("f", "l "+list, list, `(case "l" (con "Cons" ("x" "t") `+global("f", `"t"`)+"))"), "4"},
		{fn("f", "l "+list+", n Int", "Int", `(case "l" (con "Nil" () "n") (con "Cons" ("x" "t") `+global("f", `"t"`, `(op + "n" "x")`)+"))"), "3 1"},
		{fn("f", "l "+list+", n Int", "Int", `(case "l" (con "Nil" () "n") (con "Cons" ("x" "t") `+global("f", `"t"`, `"x"`)+"))"), "2 0"}, // at (2, 1): the head 0 and the tail 3 come to the table at (3, 0), which has 1, for another element might stand behind
		{fn("f", "g (Int -> Int), n Int", "Int", `(case "n" (int 0 1) (else `+global("f", `"g"`, app(`"g"`, `"n"`))+"))"), "0 1"},
	} {
		checkFirst(t, x.text, x.want)
	}
}

// TestRings: definitions that need one another, in whatever order they stand, and such as they need.
func TestRings(t *testing.T) {
	even := fn("even", "n Int, a Int, b Int", "Int", `(case "n" (int 0 "a") (else `+global("odd", `(op - "n" 1)`, `"a"`, `"b"`)+"))")
	odd := fn("odd", "n Int, a Int, b Int", "Int", `(case "n" (int 0 "b") (else `+global("even", `(op - "n" 1)`, `"a"`, `"b"`)+"))")
	for _, text := range []string{even + odd, fn("z", "", "Int", global("even", "1", "2", "3")) + even + odd, even + fn("z", "", "Int", global("even", "1", "2", "3")) + odd} {
		l := analysed(t, read(t, text))
		for _, s := range l {
			if s.Name != "z" && told(s) != "1 0 0" {
				t.Errorf("%s: %s", text, tellAll(l))
			}
		}
	}
	both := strings.NewReplacer(`(int 0 "a")`, `(int 0 (op + "a" "b"))`, `(int 0 "b")`, `(int 0 (op + "a" "b"))`)
	checkAll(t, both.Replace(odd+even), "odd: 1 1 1; even: 1 1 1")
	// a long ring: what the last one needs all need
	for _, n := range []int{2, 3, 10, 100} {
		text := ""
		for i := range n {
			text += fn(fmt.Sprint("f", i), "n Int, a Int", "Int", `(case "n" (int 0 "a") (else `+global(fmt.Sprint("f", (i+1)%n), `"n"`, `"a"`)+"))")
		}
		for i, s := range analysed(t, read(t, text)) {
			if told(s) != "1 1" {
				t.Errorf("%d of %d: %s", i, n, told(s))
			}
		}
		for i, s := range analysed(t, read(t, strings.ReplaceAll(text, `(int 0 "a")`, "(int 0 "+fail("Int")+")"))) {
			if told(s) != "2 2" {
				t.Errorf("%d of %d: %s", i, n, told(s))
			}
		}
	}
	// two that need one another by a function that is handed on, and one alone by itself
	checkAll(t, fn("a", "f (Int -> Int), n Int", "Int", `(case "n" (int 0 (app "f" "n")) (else `+global("b", `"n"`)+"))")+fn("b", "m Int", "Int", global("a", `(global "b")`, `"m"`)), "a: 1 1; b: 2")
}

// TestRows: a long row of definitions, each of which needs the next, and all of them the last one.
func TestRows(t *testing.T) {
	const n = 300
	for _, x := range []struct{ end, want string }{{`(op + "x" "y")`, "1 1"}, {`"y"`, "0 1"}, {fail("Int"), "2 2"}, {"1", "0 0"}} {
		text := numbers(n, fn("f#", "x Int, y Int", "Int", global("f@", `"x"`, `"y"`))) + fn(fmt.Sprint("f", n), "x Int, y Int", "Int", x.end)
		for i, s := range analysed(t, read(t, text)) {
			if told(s) != x.want {
				t.Fatalf("%d: %s, want %s", i, told(s), x.want)
			}
		}
	}
	// very many that don't need one another
	text := fn("g", "x Int, y Int", "Int", `"y"`) + numbers(2000, fn("f#", "x Int, y Int", "Int", global("g", `"y"`, `"x"`)))
	for i, s := range analysed(t, read(t, text)) {
		if i > 0 && told(s) != "1 0" {
			t.Fatal(i, told(s))
		}
	}
}

// TestParameters: of which parameters a number is told: not of one of an unknown type, not where the result is of an unknown type, or a function.
func TestParameters(t *testing.T) {
	for _, x := range []struct{ text, want string }{
		{fn("f", "g "+unknown+", x Int", "Int", fail("Int")), "0 2"},
		{fn("f", "g "+unknown+", x Int, h (Int -> Int), l "+list+", m "+flat, "Int", fail("Int")), "0 2 3 4 35"},
		{fn("f", "x Int, h (Int -> (Int -> Int)), k ((Int -> Int) -> Int)", "Bool", fail("Bool")), "2 6 4"},
		{fn("f", "x Int, l "+list, "(Int -> Int)", fail("(Int -> Int)")), "0 0"},
		{fn("f", "x Int, l "+list, unknown, fail(unknown)), "0 0"},
		{fn("f", "x Int, l "+list, list, fail(list)), "2 4"},
		{fn("f", "x Int, l "+list, "(Pair (Int -> Int) Int)", fail("(Pair (Int -> Int) Int)")), "2 4"}, // no function type itself
		{fn("f", "x (Pair (Int -> Int) Int), l (List "+unknown+")", "Bool", seq(`"x"`, seq(`"l"`, yes))), "1 1"},
		// the greatest number of an element at which it has 0, where the elements stand in no row: the six functions have the results 00 01 02 11 12 22, each the number of a function with the results 00 01 11
		{fn("f", "g (Int -> (Int -> Int))", "Int", app(`"g"`, fail("Int"), "1")), "3"},
		{fn("f", "g (Int -> (Int -> Int))", "Int", app(`"g"`, "1", fail("Int"))), "4"}, // at 2 it has 1, at 3 again 0
		{fn("f", "g (Int -> (Int -> Int))", "Int", app(`"g"`, "1", "1")), "1"},
		{fn("f", "g (Int -> (Int -> Int))", "Int", app(`"g"`, fail("Int"), fail("Int"))), "5"},
		{fn("f", "g ((Int -> Int) -> Int)", "Int", app(`"g"`, `(global "f1")`)) + fn("f1", "x Int", "Int", `"x"`), "2"},
		{fn("f", "g (Int -> Int), h (Int -> Int)", "Int", `(op + (app "g" (app "h" 1)) (app "h" (fail 1 Int)))`), "1 2"},
	} {
		checkFirst(t, x.text, x.want)
	}
}
