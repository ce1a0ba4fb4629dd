package simplify_test

import (
	"fmt"
	"strings"
	"testing"

	"sloth/api"
	"sloth/core"
)

// TestSmallCalls: rule 4: at several types; with too few arguments, just as many, too many.
func TestSmallCalls(t *testing.T) {
	const id, k = `(lam "# x" T "# x")`, `(lam "# x" T (lam "# y" U "# x"))`
	copyOf := func(text, number, t, u string) string {
		return strings.NewReplacer("#", number, "T", t, "U", u).Replace(text)
	}
	checkExamples(t, []example{
		// at several types, one within the other
		becomes("(Triple Int Bool (List Int))", `(app (app (app (con "Triple" Int Bool (List Int)) (app (global "id" Int) 1)) (app (global "id" Bool) (con "True"))) (app (app (global "id" ((List Int) -> (List Int))) (global "id" (List Int))) (con "Nil" Int)))`,
			`(app (app (app (con "Triple" Int Bool (List Int)) (app `+copyOf(id, "1", "Int", "")+` 1)) (app `+copyOf(id, "2", "Bool", "")+` (con "True"))) (app (app `+copyOf(id, "3", "((List Int) -> (List Int))", "")+` (global "id" (List Int))) (con "Nil" Int)))`,
			`(app (app (app (con "Triple" Int Bool (List Int)) (let (("a" Int 1)) "a")) (let (("b" Bool (con "True"))) "b")) (let (("c" ((List Int) -> (List Int)) (global "id" (List Int)))) (app "c" (con "Nil" Int))))`,
			`(app (app (app (con "Triple" Int Bool (List Int)) 1) (con "True")) (app (global "id" (List Int)) (con "Nil" Int)))`,
			`(app (app (app (con "Triple" Int Bool (List Int)) 1) (con "True")) (app `+copyOf(id, "4", "(List Int)", "")+` (con "Nil" Int)))`,
			`(app (app (app (con "Triple" Int Bool (List Int)) 1) (con "True")) (let (("d" (List Int) (con "Nil" Int))) "d"))`,
			`(app (app (app (con "Triple" Int Bool (List Int)) 1) (con "True")) (con "Nil" Int))`),
		// both parameters
		becomes("Int", `(app (app (global "k" Int (List Bool)) (global "five")) (con "Nil" Bool))`,
			`(app (app `+copyOf(k, "1", "Int", "(List Bool)")+` (global "five")) (con "Nil" Bool))`,
			`(let (("a" Int (global "five"))) (app (lam "b" (List Bool) "a") (con "Nil" Bool)))`,
			`(let (("b" (List Bool) (con "Nil" Bool))) (global "five"))`, `(global "five")`),
		// of a constructor's and an alternative's types
		becomes("(Pair Int Bool)", `(app (global "swap" Bool Int) (app (app (con "Pair" Bool Int) (con "True")) (global "five")))`,
			`(app (lam "p" (Pair Bool Int) (case "p" (con "Pair" ("x" "y") (app (app (con "Pair" Int Bool) "y") "x")))) (app (app (con "Pair" Bool Int) (con "True")) (global "five")))`,
			`(let (("p" (Pair Bool Int) (app (app (con "Pair" Bool Int) (con "True")) (global "five")))) (case "p" (con "Pair" ("x" "y") (app (app (con "Pair" Int Bool) "y") "x"))))`,
			`(case (app (app (con "Pair" Bool Int) (con "True")) (global "five")) (con "Pair" ("x" "y") (app (app (con "Pair" Int Bool) "y") "x")))`,
			`(let (("x" Bool (con "True")) ("y" Int (global "five"))) (app (app (con "Pair" Int Bool) "y") "x"))`,
			`(let (("y" Int (global "five"))) (app (app (con "Pair" Int Bool) "y") (con "True")))`,
			`(app (app (con "Pair" Int Bool) (global "five")) (con "True"))`),
		// too few: one of two, none
		stays("(Int -> Int)", `(app (global "k" Int Int) 1)`),
		stays("(Int -> Int)", `(global "id" Int)`),
		stays("((Int -> Int) -> (Int -> Int))", `(global "twice" Int)`),
		stays("(Int -> (Int -> Int))", `(lam "x" Int (app (global "add") "x"))`),
		// too many: the inner spine gets its copy, what stands around it waits for the next round
		becomes("Int", `(app (app (global "id" (Int -> Int)) (global "f")) 1)`,
			`(app (app `+copyOf(id, "1", "(Int -> Int)", "")+` (global "f")) 1)`,
			`(let (("a" (Int -> Int) (global "f"))) (app "a" 1))`,
			`(app (global "f") 1)`),
		becomes("Int", `(app (app (app (global "k" (Int -> Int) Bool) (global "f")) (con "True")) (op + 1 1))`,
			`(app (app (app `+copyOf(k, "1", "(Int -> Int)", "Bool")+` (global "f")) (con "True")) 2)`, ".."),
		// too many at once: a spine that came to be in the round, and that one more call stands around
		becomes("Int", `(app (let (("h" ((Int -> Int) -> (Int -> Int)) (global "id" (Int -> Int)))) (app "h" (global "f"))) 1)`,
			`(app (app (global "id" (Int -> Int)) (global "f")) 1)`,
			`(app (app `+copyOf(id, "1", "(Int -> Int)", "")+` (global "f")) 1)`, ".."),
		// the arguments are made simpler first
		becomes("Int", `(app (app (global "add") (op + 1 2)) (app (global "id" Int) 4))`, `(app (app (lam "x" Int (lam "y" Int (op + "x" "y"))) 3) (app (lam "z" Int "z") 4))`, ".."),
		// it needs itself, by one step or by two; it has no lambda of its own
		stays("Int", `(app (global "self" Int) 1)`),
		stays("Int", `(app (global "f") 1)`),
		stays("Int", `(app (global "g") 1)`),
		stays("Int", `(app (global "inc") 1)`),
		// a call that appears in the round gets its copy in that round only if it is looked at behind that
		becomes("Int", `(app (let (("h" (Int -> Int) (global "id" Int))) "h") 3)`, `(app `+copyOf(id, "1", "Int", "")+` 3)`, `(let (("a" Int 3)) "a")`, `3`),
		becomes("Int", `(let (("h" (Int -> Int) (global "id" Int))) (app "h" 3))`, `(app (global "id" Int) 3)`, `(app `+copyOf(id, "1", "Int", "")+` 3)`, `(let (("a" Int 3)) "a")`, `3`),
	})
}

// mains is a program with one more definition of type Int, main, which stands first.
func mains(t *testing.T, main, others string) api.Program {
	t.Helper()
	p, code := core.Read(others)
	q, mainCode := core.Read(`(def "main" () Int ` + main + `)`)
	p.Defs = append(q.Defs, p.Defs...)
	if code != api.OK || mainCode != api.OK || core.Check(p) != api.OK {
		t.Fatal("the test is wrong:", code, mainCode, core.Check(p), short(main), short(others))
	}
	return p
}

// TestWhenBegun: which definitions are small, and what their copies are, is told as they were when the round began.
func TestWhenBegun(t *testing.T) {
	const id = `(def "id" () (Int -> Int) (lam "x" Int "x"))`
	// h gets a copy in its Body in the same round, ahead of main or behind it
	for _, order := range []string{"1 2", "2 1"} {
		both := strings.NewReplacer("1", `(def "main" () Int (app (global "h") 1))`, "2", `(def "h" () (Int -> Int) (lam "x" Int (app (global "id") "x")))`).Replace(order)
		want := strings.NewReplacer("1", `(def "main" () Int (app (lam "a" Int (app (global "id") "a")) 1))`, "2", `(def "h" () (Int -> Int) (lam "x" Int (app (lam "b" Int "b") "x")))`).Replace(order)
		checkSame(t, read(t, both+id), 1, read(t, want+id))
	}
	// h has its lambda behind the first round: then it is small, then it is a value
	h := `(def "h" () (Int -> Int) (app (lam "a" Int (lam "b" Int (op + "a" "b"))) 1))`
	p := mains(t, `(seq (global "h") (app (global "h") 2))`, h)
	checkSame(t, p, 1, mains(t, `(seq (global "h") (app (global "h") 2))`, `(def "h" () (Int -> Int) (let (("a" Int 1)) (lam "b" Int (op + "a" "b"))))`))
	checkSame(t, p, 2, mains(t, `(seq (global "h") (app (global "h") 2))`, `(def "h" () (Int -> Int) (lam "b" Int (op + 1 "b")))`))
	checkSame(t, p, 3, mains(t, `(app (lam "c" Int (op + 1 "c")) 2)`, `(def "h" () (Int -> Int) (lam "b" Int (op + 1 "b")))`))
	// h becomes short enough in the first round, and is small in the next one
	h = `(def "h" () (Int -> Int) (lam "b" Int (op + "b" (case 1 (int 2 (op + (op + (op + 1 2) (op + 3 4)) (op + "b" 5))) (else 6)))))`
	p = mains(t, `(app (global "h") 2)`, h)
	checkSame(t, p, 1, mains(t, `(app (global "h") 2)`, `(def "h" () (Int -> Int) (lam "b" Int (op + "b" 6)))`))
	checkSame(t, p, 2, mains(t, `(app (lam "c" Int (op + "c" 6)) 2)`, `(def "h" () (Int -> Int) (lam "b" Int (op + "b" 6)))`))
	// h needs itself, till it does so no more
	h = `(def "h" () (Int -> Int) (lam "b" Int (case 1 (int 2 (app (global "h") "b")) (else "b"))))`
	p = mains(t, `(app (global "h") 2)`, h)
	checkSame(t, p, 1, mains(t, `(app (global "h") 2)`, `(def "h" () (Int -> Int) (lam "b" Int "b"))`))
	checkSame(t, p, 2, mains(t, `(app (lam "c" Int "c") 2)`, `(def "h" () (Int -> Int) (lam "b" Int "b"))`))
	// h loses no lambda that it had: one that stands behind a let in the copy is none of its own
	h = `(def "h" () (Int -> (Int -> Int)) (lam "a" Int (lam "b" Int (op + "a" "b"))))`
	p = mains(t, `(app (app (global "h") 1) (seq (app (global "h") 3) 2))`, h)
	checkSame(t, p, 1, mains(t, `(app (app (lam "c" Int (lam "d" Int (op + "c" "d"))) 1) 2)`, h))
}

// checkSmall: a definition h of Int to Int (with type parameters, if Types are told) is small or not: its call with one argument gets a copy or does not.
func checkSmall(t *testing.T, what, h string, types string, want bool) {
	t.Helper()
	p := mains(t, `(app (global "h"`+types+`) 0)`, h)
	q := simple(t, p, 1)
	if got := q.Defs[0].Body.Args[0].Kind == api.ExprLam; got != want {
		t.Errorf("%s: %v, want %v", what, got, want)
	}
	next, code := plainRound(p, new(int), map[int]int{})
	if code != api.OK || !same(q, next) {
		t.Errorf("%s: the second form says %v", what, printed(next))
	}
}

// TestMaxInline: bodies of MaxInline expressions and of one more, of all kinds.
func TestMaxInline(t *testing.T) {
	for _, x := range []struct {
		body string
		want bool
	}{
		{`1`, true},
		{nested(11, `(app (global "no") `, "1", ")"), false},
		{nested(5, `(app (global "no") `, `"x"`, ")"), true},                                          // 11
		{nested(5, `(op + 1 `, `(seq 1 2)`, ")"), false},                                              // 13
		{nested(4, `(op + 1 `, `(seq 1 (op + 2 "x"))`, ")"), false},                                   // 13
		{nested(4, `(op + 1 `, `(case 1 (int 1 2) (else "x"))`, ")"), true},                           // 12: the case and its three parts
		{nested(4, `(op + 1 `, `(case 1 (int 1 2) (int 3 4) (else "x"))`, ")"), false},                // 13
		{nested(4, `(op + 1 `, `(let (("y" Int 1) ("z" Int 2)) "y")`, ")"), true},                     // 12: the let, two Values, the body
		{nested(4, `(op + 1 `, `(let (("y" Int 1) ("z" Int 2) ("w" Int 3)) "y")`, ")"), false},        // 13
		{nested(5, `(op + 1 `, `(app (lam "y" Int 3) 4)`, ")"), false},                                // 14
		{nested(4, `(op + 1 `, `(app (lam "y" Int 3) 4)`, ")"), true},                                 // 12: a Bind of a lambda has no Value
		{nested(4, `(op + 1 `, `(app (app (lam "y" Int (lam "z" Int 3)) 4) 5)`, ")"), false},          // 14
		{nested(4, `(op + 1 `, `(hard "y" Int 1 (seq 2 "x"))`, ")"), false},                           // 13
		{nested(5, `(op + 1 `, `(fail 1 Int)`, ")"), true},                                            // 11
		{nested(4, `(op + 1 `, `(hard "y" Int (app (fail 1 (Int -> Int)) "x") 2)`, ")"), false},       // 13
		{nested(4, `(op + 1 `, `(hard "y" Int (case "x" (else 2)) 2)`, ")"), false},                   // 13
		{nested(3, `(op + 1 `, `(hard "y" Int (case "x" (else 2)) (op + "y" "y"))`, ")"), false},      // 13
		{nested(3, `(op + 1 `, `(hard "y" Int (case "x" (else 2)) (seq "x" "y"))`, ")"), false},       // 13
		{nested(3, `(op + 1 `, `(hard "y" Int (op * "x" "x") (case "y" (else 3)))`, ")"), false},      // 13
		{nested(3, `(op + 1 `, `(hard "y" Int (case "x" (else 2)) (case "y" (else 3)))`, ")"), false}, // 13
		{nested(3, `(op + 1 `, `(hard "y" Int (op * "x" "x") (case (case "y" (else 3)) (else 1)))`, ")"), false},
		{nested(3, `(op + 1 `, `(hard "y" Int 2 (op * "x" "y"))`, ")"), true}, // 11
	} {
		text := `(def "h" () (Int -> Int) (lam "x" Int ` + x.body + `)) (def "no" () (Int -> Int) (global "no"))`
		checkSmall(t, x.body, text, "", x.want)
	}
	// a type does not count, however great it is
	great := strings.Repeat("(List ", 400) + "Int" + strings.Repeat(")", 400)
	checkSmall(t, "a great type", `(def "h" () (Int -> Int) (lam "x" Int (seq (con "Nil" `+great+`) "x")))`, "", true)
	// nor do its own lambdas, however many there are
	for _, args := range []int{2, 12, 13, 60} {
		h := nested(args, `(Int -> `, "Int", ")")
		p := mains(t, strings.Repeat("(app ", args)+`(global "h")`+strings.Repeat(" 1)", args), `(def "h" () `+h+` `+nested(args, `(lam "x#" Int `, `(op + "x0" "x1")`, ")")+`)`)
		head, l := spine(simple(t, p, 1).Defs[0].Body)
		if n, _ := ownLambdas(head); n != args || len(l) != args {
			t.Errorf("%d lambdas: %d and %d arguments", args, n, len(l))
		}
	}
}

// TestNeedsItself: by one step and by several; one that leads to such a ring without being in it is small.
func TestNeedsItself(t *testing.T) {
	const direct = `(def "h" () (Int -> Int) (lam "x" Int (seq (global "h") "x")))`
	checkSmall(t, "by one step, without a call", direct, "", false)
	checkSmall(t, "in a Value", `(def "h" () (Int -> Int) (lam "x" Int (let (("y" (Int -> Int) (global "h"))) "x")))`, "", false)
	checkSmall(t, "in an alternative", `(def "h" () (Int -> Int) (lam "x" Int (case "x" (int 1 (app (global "h") 2)) (else 3))))`, "", false)
	for _, steps := range []int{1, 2, 3, 10, 20000} {
		chain := `(def "h" () (Int -> Int) (lam "x" Int (seq (global "d0") "x")))` + numbers(steps, `(def "d#" () Int (global "d$"))`)
		last := func(body string) string { return fmt.Sprintf(`%s(def "d%d" () Int %s)`, chain, steps, body) }
		if steps < 1000 { // the second form goes down and down
			checkSmall(t, fmt.Sprint("a ring of ", steps), last(`(app (global "h") 1)`), "", false)
			checkSmall(t, fmt.Sprint("a way of ", steps, " to a ring"), last(`(global "d0")`), "", true)
			checkSmall(t, fmt.Sprint("a way of ", steps, " to one that needs itself"), last(fmt.Sprintf(`(global "d%d")`, steps)), "", true)
			checkSmall(t, fmt.Sprint("a way of ", steps), last(`1`), "", true)
			continue
		}
		for body, want := range map[string]int{`(app (global "h") 1)`: api.ExprGlobal, `(global "d0")`: api.ExprLam, `1`: api.ExprLam} {
			q := simple(t, mains(t, `(app (global "h") 0)`, last(body)), 1)
			if got := q.Defs[0].Body.Args[0].Kind; got != want {
				t.Errorf("a way of %d to %s: %d, want %d", steps, body, got, want)
			}
		}
	}
	// two rings that share a definition; a ring through a definition that is not small itself
	checkSmall(t, "two rings", `(def "h" () (Int -> Int) (lam "x" Int (app (global "a") (app (global "b") "x")))) (def "a" () (Int -> Int) (lam "x" Int (app (global "b") "x"))) (def "b" () (Int -> Int) (lam "x" Int (app (global "h") "x")))`, "", false)
	checkSmall(t, "no ring", `(def "h" () (Int -> Int) (lam "x" Int (app (global "a") (app (global "b") "x")))) (def "a" () (Int -> Int) (lam "x" Int (app (global "b") "x"))) (def "b" () (Int -> Int) (lam "x" Int (app (global "a") "x")))`, "", true)
	checkSmall(t, "at another type", `(def "h" (a) (Int -> Int) (lam "x" Int (app (global "h" (List a)) "x")))`, " Bool", false)
	checkSmall(t, "who is needed by many", `(def "h" () (Int -> Int) (lam "x" Int "x")) (def "a" () Int (app (global "h") (global "a"))) (def "b" () Int (app (global "h") (global "b")))`, "", true)
}

// lists writes a type of so many nodes.
func lists(nodes int) string {
	return strings.Repeat("(List ", nodes-1) + "Int" + strings.Repeat(")", nodes-1)
}

// TestMaxType: rule 4 is not done, if a type in the copy would have more than MaxType nodes: one that stands in it, or that an expression or a local in it has.
func TestMaxType(t *testing.T) {
	const others = `(data M.P (a) ("M.P" Int)) (data M.Q (a) ("M.Q" (Pair a Bool) Int)) (def "no" (b) (b -> Int) (lam "x" b (app (global "no" b) "x"))) (def "is" (b) Int 1) `
	for _, x := range []struct {
		what, body string
		nodes      int // of the greatest type, where a has none
		times      int // how often a stands in it
	}{
		{"an ExprFail's type", `(seq (fail 1 (Pair a Bool)) "x")`, 2, 1},
		{"a type of an ExprGlobal", `(op + (global "is" (Pair a Bool)) "x")`, 2, 1},
		{"a type of an ExprCon", `(seq (con "Nil" (Pair a Bool)) "x")`, 3, 1},
		{"the type that an ExprGlobal has", `(seq (global "no" a) "x")`, 2, 1},
		{"the type that an ExprCon has", `(seq (con "M.P" a) "x")`, 3, 1},
		{"the type that an ExprCon of two fields has", `(seq (con "Cons" a) "x")`, 4, 3},
		{"an ExprLam's type", `(seq (lam "y" a 1) "x")`, 2, 1},
		{"a Bind's type", `(let (("y" (Triple a Bool Int) (fail 1 (Triple a Bool Int)))) "x")`, 3, 1},
		{"an ExprHard's Bind's type", `(hard "y" (Triple a a Int) (fail 1 (Triple a a Int)) "x")`, 2, 2},
		{"an alternative's local's type", `(case (fail 1 (M.Q a)) (con "M.Q" ("y" "z") "z"))`, 2, 1},
		{"a type of two variables", `(seq (fail 1 (Pair a (Pair b b))) "x")`, 4, 1},
		{"no parameter", `"x"`, 0, 0},
	} {
		params, second := "a", ""
		if strings.Contains(x.body, " b") {
			params, second = "a b", " Int"
		}
		h := others + `(def "h" (` + params + `) (Int -> Int) (lam "x" Int ` + x.body + `))`
		for _, nodes := range []int{1, 2, 100, 165, 166, 240, 248, 249, 250, 495, 496, 497, 498, 499, 500} {
			checkSmall(t, fmt.Sprint(x.what, " at a type of ", nodes, " nodes"), h, " "+lists(nodes)+second, x.nodes+x.times*nodes <= api.MaxType)
		}
	}
}

// TestTypesAtOnce: the Params of the copy are replaced at one time, by types that may speak of variables of the same names.
func TestTypesAtOnce(t *testing.T) {
	const k = `(def "k" (a b) (a -> (b -> a)) (lam "x" a (lam "y" b "x")))`
	p := read(t, k+`(def "main" (a b) (a -> (b -> b)) (lam "p" a (lam "q" b (app (app (global "k" b (Pair b a)) "q") (app (app (con "Pair" b a) "q") "p")))))`)
	checkSame(t, p, 1, read(t, k+`(def "main" (a b) (a -> (b -> b)) (lam "p" a (lam "q" b (app (app (lam "x" b (lam "y" (Pair b a) "x")) "q") (app (app (con "Pair" b a) "q") "p")))))`))
}

// TestFreshNames: what is called anew is called as nothing else in the definition is, whatever names there are.
func TestFreshNames(t *testing.T) {
	const others = `(def "id" (a) (a -> a) (lam "v1" a "v1")) (def "no" () (Int -> Int) (global "no")) (def "v2" (a) (a -> (a -> a)) (lam "v3" a (lam "v1" a (app (global "id" a) "v3"))))`
	body, depth := "", 0
	for _, head := range []string{"v", "x", "y", "a", "l", "x'", "_", "n", "tmp", "id", "id.", "main.", "$", "%", "v v", "V", "local", "fresh", "v0", "v1", "~"} {
		body += numbers(10, `(let (("`+head+`#" Int (app (global "no") #))) (op + (op + "`+head+`#" "`+head+`#") (app (app (global "v2" Int) (app (global "id" Int) `)
		depth += 10
	}
	body += `(app (global "id" Int) 1)` + strings.Repeat(")) 2)))", depth)
	p := mains(t, body, others)
	want, names := p, 1000
	for rounds := 1; rounds <= api.MaxRounds; rounds++ {
		want, _ = plainRound(want, &names, map[int]int{})
		checkSame(t, p, rounds, want)
	}
}
