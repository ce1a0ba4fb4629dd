package strict_test

import (
	"fmt"
	"strings"
	"testing"

	"sloth/api"
)

// weighing writes a number that weighs so much (not 2), in a text that is far shorter.
func weighing(weight int) string {
	switch {
	case weight == 1:
		return "1"
	case weight == 6 || weight < 9 && weight%2 == 1:
		return "(op + 1 " + weighing(weight-2) + ")"
	case weight%2 == 1:
		return "(op + " + weighing(4) + " " + weighing(weight-5) + ")"
	}
	return `(case (con "Nil" Int) (con "Nil" () ` + weighing((weight-2)/2) + "))"
}

// knows writes which definitions are known.
func knows(t *testing.T, text string) string {
	t.Helper()
	s := ""
	for _, x := range analysed(t, read(t, text)) {
		if x.Known {
			s += " " + x.Name
		}
	}
	return strings.TrimSpace(s)
}

// checkWork: the definitions of a text take just so much work: behind them there is room for what is left of MaxWork, and for no more.
func checkWork(t *testing.T, text string, want int) {
	t.Helper()
	all := knows(t, text)
	if n := len(analysed(t, read(t, text))); len(strings.Fields(all)) != n {
		t.Errorf("%s: only %s of %d are known", short(text), all, n)
	}
	if got := knows(t, text+fn("rest", "", "Int", weighing(api.MaxWork-want))); got != all+" rest" {
		t.Errorf("%s takes more than %d", short(text), want)
	}
	if got := knows(t, text+fn("rest", "", "Int", weighing(api.MaxWork-want+1))); got != all {
		t.Errorf("%s takes less than %d", short(text), want)
	}
}

// checkWeight: what an expression weighs, of that type, and how great its let's and case's parts are reckoned.
func checkWeight(t *testing.T, typ, body string, want int) {
	t.Helper()
	checkWork(t, fn("f", "", typ, body), want)
}

// TestWeights: of each kind of expression.
func TestWeights(t *testing.T) {
	for w := 1; w < 40; w++ {
		if w != 2 {
			checkWeight(t, "Int", weighing(w), w)
		}
	}
	checkWeight(t, "Int", "1", 1)
	checkWeight(t, list, none, 1)
	checkWeight(t, list, fail(list), 1)
	checkWeight(t, "Int", "(op + 1 2)", 3)
	checkWeight(t, "Int", seq("1", "(op - 2 3)"), 5)
	checkWeight(t, list, cons("1", none), 5)
	checkWeight(t, "(Int -> (Int -> (Triple Int Int Int)))", `(app (con "Triple" Int Int Int) (op + 1 2))`, 5)
	checkWeight(t, "Int", app(fail("(Int -> (Int -> Int))"), "1", "2"), 5)
	checkWeight(t, "Int", app(fail("("+unknown+" -> Int)"), fail(unknown)), 3) // what is not worked out counts too
	checkWeight(t, "Int", `(hard "h" Int (op + 1 2) (op + "h" "h"))`, 7)
	checkWeight(t, "Int", seq(fail(unknown), "1"), 3)
	// a case of a number or of a data type counts its bodies once, that of a list twice, whichever alternatives it has
	checkWeight(t, "Int", "(case (op + 1 2) (int 1 (op + 1 2)) (int 2 2) (else (op + 3 4)))", 1+3+3+1+3)
	checkWeight(t, "Int", `(case `+yes+` (con "True" () (op + 1 2)) (else (op + 3 4)))`, 1+1+3+3)
	checkWeight(t, "Int", `(case `+app(`(con "Pair" (List Int) Int)`, none, "1")+` (con "Pair" ("a" "b") (op + "b" 2)))`, 1+5+3)
	checkWeight(t, "Int", `(case `+cons("1", none)+` (con "Nil" () (op + 1 2)) (con "Cons" ("x" "t") (op + "x" (op + "x" 2))))`, 1+5+2*(3+5))
	checkWeight(t, "Int", `(case `+none+` (con "Cons" ("x" "t") (op + "x" 2)))`, 1+1+2*3)
	checkWeight(t, "Int", `(case `+none+` (con "Nil" () 1) (else (op + 1 2)))`, 1+1+2*(1+3))
	checkWeight(t, "Int", `(case `+none+` (else (op + 1 2)))`, 1+1+2*3)
	checkWeight(t, "Int", `(case `+none+` (else (case `+none+` (else (case `+none+` (else 1))))))`, 2+2*(2+2*(2+2)))
	checkWeight(t, "Int", `(case (case `+none+` (con "Nil" () `+none+`)) (con "Nil" () 1))`, 1+4+2) // what is looked at counts once
	// of an unknown type
	checkWeight(t, unknown, `(case `+none+` (else `+fail(unknown)+`))`, 4)
}

// TestLetWeights: Values that speak of a name of their let count again and again.
func TestLetWeights(t *testing.T) {
	for _, x := range []struct {
		binds, body string
		want        int
	}{
		{`("a" Int (op + 1 2)) ("b" Int 3)`, `(op + "a" "b")`, 1 + 4 + 3},
		{`("a" Int (op + 1 "a"))`, "1", 1 + 3*3 + 1},
		{`("a" Int (op + 1 2)) ("b" Int "a")`, `(op + "a" "b")`, 1 + 5*4 + 3}, // one speaks of one: all count
		{`("b" Int "a") ("a" Int (op + 1 2))`, `1`, 1 + 5*4 + 1},
		{`("l" (List Int) "l")`, `1`, 1 + 5*1 + 1},
		{`("l" (List Int) ` + cons("1", `"l"`) + `) ("a" Int 1)`, `(op + "a" "a")`, 1 + 7*6 + 3},
		{`("f" (Int -> Int) "f") ("g" ((List Int) -> (List Int)) ` + fail(flat) + `)`, "1", 1 + 39*2 + 1},
		{`("u" ` + unknown + ` "u") ("a" Int 1)`, "1", 1 + 4*2 + 1}, // an unknown type has one
		{`("u" ` + unknown + ` ` + fail(unknown) + `) ("a" Int 1)`, `(seq "u" "a")`, 1 + 2 + 3},
		{`("a" Int 1)`, `(let (("b" Int "a")) "b")`, 1 + 1 + 3},                                             // a Value of another let speaks of it
		{`("a" Int (let (("b" Int 1)) "b"))`, `"a"`, 1 + 3 + 1},                                             // within a Value, of another let's name
		{`("a" Int (let (("b" Int "a")) "b"))`, `"a"`, 1 + 3*3 + 1},                                         // deep in a Value
		{`("a" Int (let (("b" Int "b")) "b"))`, `"a"`, 1 + 5 + 1},                                           // the inner one alone
		{`("a" Int (let (("b" Int (op + "a" "b"))) "a"))`, `"a"`, 1 + 3*(1+3*3+1) + 1},                      // both
		{`("a" Int (case ` + none + ` (con "Cons" ("x" "t") (op + "x" "a"))))`, `"a"`, 1 + 3*(1+1+2*3) + 1}, // with what counts twice
		{`("a" Int (hard "b" Int 1 "b"))`, `(hard "c" Int "a" "c")`, 1 + 3 + 3},
		{`("a" Int (hard "b" Int "a" "b"))`, `"a"`, 1 + 3*3 + 1},
	} {
		checkWeight(t, "Int", "(let ("+x.binds+") "+x.body+")", x.want)
	}
}

// TestWorks: weights times points, and once more for each step that a table may rise, where a body speaks of its group.
func TestWorks(t *testing.T) {
	for _, x := range []struct {
		text string
		want int
	}{
		{fn("f", "x Int", "Int", `"x"`), 2 * 2},
		{fn("f", "x Int, l "+list, "Int", `"x"`), 3 * 8},
		{fn("f", "g (Int -> Int), h "+flat, "Int", "1"), 3 * 3 * 35},
		{fn("f", "u "+unknown+", l "+list, "Int", "1"), 3 * 4},
		{fn("f", "x Int", "(Int -> Int)", fail("(Int -> Int)")), 2 * 2},
		{fn("f", "", "Int", `(global "f")`), 2},
		{fn("f", "", list, `(global "f")`), 4},
		{fn("f", "", "(Int -> Int)", `(global "f")`), 3},
		{fn("f", "", flat, `(global "f")`), 35},
		{fn("f", "", unknown, `(global "f")`), 1},
		{fn("f", "x Int", "Int", global("f", `"x"`)), 4 * 2 * (1 + 2)},
		{fn("f", "l "+list, list, global("f", `"l"`)), 4 * 4 * (1 + 4*3)},
		{fn("f", "l "+list, unknown, global("f", `"l"`)), 4 * 4},
		{fn("f", "x Int, u "+unknown, "Int", global("f", `"x"`, `"u"`)), 7 * 2 * (1 + 2)},
		{fn("f", "x Int", "Int", seq(`(global "f")`, "1")), 4 * 2 * (1 + 2)}, // speaks of itself, whatever comes of that
		// two that need one another; two that don't
		{fn("f", "x Int", list, global("g", none)) + fn("g", "l "+list, list, seq(global("f", "1"), `"l"`)), (4*2 + 6*4) * (1 + 2*3 + 4*3)},
		{fn("f", "", "Int", `(global "g")`) + fn("g", "", "Int", `(global "f")`), 2 * (1 + 2)},
		{fn("f", "", unknown, `(global "g")`) + fn("g", "", unknown, `(global "f")`), 2},
		{fn("f", "x Int", "Int", global("g", none)) + fn("g", "l "+list, "Int", "1"), 4*2 + 2*4},
		{fn("f", "x Int", "Int", global("g", none)) + fn("g", "l "+list, "Int", global("g", `"l"`)), 4*2 + 4*4*(1+4)},
		{fn("f", "x Int", "Int", global("f", "1")) + fn("g", "l "+list, "Int", global("f", "1")), 4*2*(1+2) + 4*4},
		// a ring of three, of which only two speak of themselves besides
		{fn("f", "", "Int", `(op + (global "g") (global "f"))`) + fn("g", "", "Int", `(global "h")`) + fn("h", "", "Int", `(op + (global "f") (global "h"))`), 7 * (1 + 3)},
	} {
		checkWork(t, x.text, x.want)
	}
}

// TestMaxWork: at MaxWork, and one past it.
func TestMaxWork(t *testing.T) {
	const most = api.MaxWork
	f := func(name string, weight int) string { return fn(name, "", "Int", weighing(weight)) }
	again := func(name string, weight int) string { // twice its weight
		return fn(name, "", "Int", "(op + "+global(name)+" "+weighing(weight-2)+")")
	}
	for _, x := range []struct{ text, want string }{
		{f("a", most-1), "a"}, {f("a", most), "a"}, {f("a", most+1), ""}, {f("a", most+3), ""}, {f("a", 3*most), ""},
		{again("a", most/2), "a"}, {again("a", most/2+1), ""},
		{fn("a", "x Int", "Int", weighing(most/2-1)), "a"}, {fn("a", "x Int", "Int", weighing(most/2)), ""},
		// all in a row
		{f("a", most/2) + f("b", most/2), "a b"}, {f("a", most/2) + f("b", most/2+1), "a"}, {f("a", most/2+1) + f("b", most/2), "a"},
		{f("a", most) + f("b", 1), "a"}, {f("a", most-1) + f("b", 1) + f("c", 1), "a b"},
		// what is not known takes nothing of it
		{f("a", most+1) + f("b", most), "b"}, {f("a", most) + f("b", most) + f("c", 1), "a"}, {f("a", 5) + f("b", most-4) + f("c", most-5), "a c"},
		{f("a", most-10) + f("b", 11) + f("c", 5) + f("d", 6) + f("e", 5) + f("f", 1), "a c e"},
		{fn("a", "a (List Int), b (List Int), c (List Int), d (List Int), e (List Int), f (List Int)", "Int", "1") + f("b", most), "b"},
		// groups stand where their first definitions do, whatever they need
		{fn("a", "", "Int", `(op + (global "z") 1)`) + f("b", most-3) + f("z", 1), "a b"},
		{fn("a", "", "Int", `(op + (global "z") 1)`) + f("b", most-4) + f("z", 1), "a b z"},
		{fn("a", "", "Int", `(op + (global "z") 1)`) + f("b", most) + fn("z", "", "Int", `(global "a")`), "a z"},
		{fn("a", "", "Int", `(op + (global "z") 1)`) + f("b", most-12) + fn("z", "", "Int", `(global "a")`) + f("c", 1), "a b z"},
		{f("b", most) + fn("a", "", "Int", `(op + (global "z") 1)`) + fn("z", "", "Int", `(global "a")`), "b"},
		// a group is known as a whole, or not at all
		{fn("a", "", "Int", `(op + (global "z") 1)`) + fn("z", "", "Int", "(op + (global \"a\") "+weighing(most/3)+")"), ""},
		{fn("a", "", "Int", `(op + (global "z") 1)`) + fn("z", "", "Int", "(op + (global \"a\") "+weighing(most/3-5)+")"), "a z"},
	} {
		if got := knows(t, x.text); got != x.want {
			t.Errorf("%s: %q, want %q", short(x.text), got, x.want)
		}
	}
}

// leftwards writes a function type that has so many elements.
func leftwards(elements int) string {
	return nested(elements-2, "(", "Int", " -> Int)")
}

// TestMaxPoints: MaxPoints points, and one more: the group is not known, and takes no work.
func TestMaxPoints(t *testing.T) {
	at := "a " + list + ", b " + list + ", c ((List Int) -> Int), d ((List Int) -> Int), e ((List Int) -> Int)" // 4 4 5 5 5
	above := "a (Int -> Int), b " + leftwards(23) + ", c " + leftwards(29)                                      // 3 23 29
	whole := "a " + leftwards(40) + ", b (Int -> " + list + "), c ((List Int) -> Int)"                          // 40 10 5
	checkFirst(t, fn("f", at, "Int", fail("Int")), "4 4 5 5 5")
	checkFirst(t, fn("f", at, "Int", seq(`"a"`, app(`"c"`, `"b"`))), "1 0 1 0 0")
	checkFirst(t, fn("f", whole, "Int", fail("Int")), "40 10 5")
	checkFirst(t, fn("f", whole, "Int", seq(app(`"b"`, "1"), app(`"c"`, none))), "0 1 1")
	checkFirst(t, fn("f", above, "Int", fail("Int")), "?")
	checkFirst(t, fn("f", at+", x Int", "Int", "1"), "?")
	checkFirst(t, fn("f", "x Int, "+at, "Int", "1"), "?")
	checkFirst(t, fn("f", at+", u "+unknown, "Int", seq(`"a"`, "1")), "1 0 0 0 0 0")
}

// TestRingPoints: a definition with too many points makes its whole group unknown, and no other one.
func TestRingPoints(t *testing.T) {
	const lists = "a (List Int), b (List Int), c (List Int), d (List Int), e (List Int), f (List Int)"
	all := []string{none, none, none, none, none, `"x"`}
	text := fn("use", "x "+list, "Int", global("many", all...)) +
		fn("many", lists, "Int", `(case "a" (con "Nil" () 1) (else `+global("ring", `"b"`)+"))") +
		fn("ring", "x "+list, "Int", global("many", all...)) +
		fn("alone", "x "+list, "Int", global("alone", `"x"`))
	checkAll(t, text, "use: 0; many: ?; ring: ?; alone: 4")
}

// TestFar: numbers far beyond MaxWork on the way.
func TestFar(t *testing.T) {
	deep := func(n int, ahead, behind string) string { return nested(n, ahead, "1", behind) }
	twice := deep(3000, `(case (con "Nil" Int) (con "Nil" () `, "))")
	for what, x := range map[string]struct{ text, want string }{
		"bodies that count twice":          {fn("a", "", "Int", twice) + fn("b", "", "Int", weighing(api.MaxWork)), "b"},
		"just those that are too many":     {fn("a", "", "Int", deep(61, `(case (con "Nil" Int) (con "Nil" () `, "))")) + fn("b", "", "Int", weighing(api.MaxWork)), "b"},
		"63 of them":                       {fn("a", "", "Int", deep(63, `(case (con "Nil" Int) (con "Nil" () `, "))")), ""},
		"64 of them":                       {fn("a", "", "Int", deep(64, `(case (con "Nil" Int) (con "Nil" () `, "))")), ""},
		"lets":                             {fn("a", "", "Int", deep(2000, `(let (("l#" (List Int) "l#") ("n#" Int `, `)) 1)`)) + fn("b", "", "Int", "1"), "b"},
		"a let of very many":               {fn("a", "", "Int", "(let ("+numbers(5000, `("f#" `+flat+` "f#")`)+") 1)") + fn("b", "", "Int", "1"), "b"},
		"points":                           {fn("a", strings.TrimSuffix(numbers(100, "x# "+list+","), ","), "Int", "1") + fn("b", "", "Int", weighing(api.MaxWork)), "b"},
		"points and weight":                {fn("a", strings.TrimSuffix(numbers(60, "x# (Int -> Int),"), ","), "Int", twice) + fn("b", "", "Int", weighing(api.MaxWork)), "b"},
		"rounds":                           {fn("a", strings.TrimSuffix(numbers(60, "x# (Int -> Int),"), ","), flat, seq(twice, global("a", strings.Fields(numbers(60, `"x#" `))...))) + fn("b", "", "Int", weighing(api.MaxWork)), "b"},
		"a group of several":               {fn("a", "", "Int", "(op + "+twice+` (global "b"))`) + fn("b", "", "Int", "(op + "+twice+` (global "a"))`) + fn("c", "", "Int", weighing(api.MaxWork)), "c"},
		"a ring of many, each of the most": {numbers(200, fn("a#", "", "Int", "(op + "+weighing(api.MaxWork)+` (global "a@"))`)) + fn("a200", "", "Int", `(global "a0")`) + fn("b", "", "Int", "1"), "b"},
		"no twice":                         {fn("a", "", "Int", deep(1900, `(let (("l#" Int `, `)) 1)`)), "a"},
		"no twice in numbers":              {fn("a", "", "Int", deep(3000, `(case 1 (int 1 `, "))")), "a"},
	} {
		soon(t, what, func() {
			if got := knows(t, x.text); got != x.want {
				t.Errorf("%s: %q, want %q", what, got, x.want)
			}
		})
	}
}

// TestSoon: W1: great programs take no long time.
func TestSoon(t *testing.T) {
	t.Parallel()
	for what, text := range map[string]string{
		"a table that rises in many steps": fn("f", "a "+list+", b "+list+", c "+list+", d Int", list, `(case "a" (con "Nil" () "b") (con "Cons" ("x" "t") `+cons(`"d"`, global("f", `"b"`, `"c"`, `"t"`, `"x"`))+"))"),
		"a long chain":                     numbers(12000, fn("f#", "", "Int", `(global "f@")`)) + fn("f12000", "", "Int", "1"),
		"a long ring":                      numbers(7000, fn("f#", "", "Int", `(op + 1 (global "f@"))`)) + fn("f7000", "", "Int", `(global "f0")`),
		"very many":                        numbers(30000, fn("f#", "", "Int", "1")),
		"a wide call":                      fn("f", strings.TrimSuffix(numbers(240, "x# Int,"), ","), "Int", "1") + fn("g", "", "Int", global("f", strings.Fields(numbers(240, "# "))...)),
		"functions of the most elements":   fn("f", "g "+leftwards(40)+", x "+leftwards(39), "Int", app(`"g"`, `"x"`)),
		"all of those":                     manyLeftwards(),
		"deep":                             fn("f", "x Int", "Int", nested(3900, `(op + "x" `, "1", ")")),
		"functions handed on, very often":  fn("f", "x Int, y Int, z Int", "Int", `"y"`) + fn("g", "", "Int", nested(16, `(case (con "Nil" Int) (con "Nil" () `, app(`(case 1 (else (global "f")))`, "1", "2", "3"), "))")),
		"functions joined, very often":     fn("f", "x Int", "(Int -> (Int -> Int))", nested(15, `(case `+cons(fail("Int"), none)+` (con "Cons" ("h#" "t#") (case 1 (int 1 `, fail("(Int -> (Int -> Int))"), `) (else `+fail("(Int -> (Int -> Int))")+`))))`)),
	} {
		soon(t, what, func() { knows(t, text) })
	}
}

// manyLeftwards writes definitions that apply functions of many types.
func manyLeftwards() string {
	text := ""
	for n := 3; n <= 40; n++ {
		text += fn(fmt.Sprint("f", n), "g "+leftwards(n)+", x "+leftwards(n-1), "Int", app(`"g"`, `"x"`))
	}
	return text
}
