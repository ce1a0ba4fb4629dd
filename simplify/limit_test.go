package simplify_test

import (
	"fmt"
	"strings"
	"testing"

	"sloth/api"
	"sloth/core"
	"sloth/simplify"
)

// tree writes a sum of texts that is as flat as may be.
func tree(l []string) string {
	if len(l) == 1 {
		return l[0]
	}
	half := len(l) / 2
	return "(op + " + tree(l[:half]) + " " + tree(l[half:]) + ")"
}

func times(n int, text string) []string {
	l := make([]string, n)
	for i := range l {
		l[i] = text
	}
	return l
}

// padded is a program that has so many nodes more: definitions of 500 nodes, of 5 and of 3, which no round changes.
func padded(t *testing.T, p api.Program, nodes int) api.Program {
	t.Helper()
	p = api.Program{Datas: p.Datas, Defs: append([]api.Def{}, p.Defs...)}
	text := numbers(nodes/500, `(def "p#" () `+lists(498)+` (global "p#"))`)
	rest := nodes % 500
	if rest < 8 {
		t.Fatal("the test is wrong: padded by", nodes)
	}
	for ; rest%3 != 0; rest -= 5 {
		text += fmt.Sprintf(`(def "q%d" () (List Int) (con "Nil" Int))`, rest)
	}
	more := read(t, text+numbers(rest/3, `(def "r#" () Int 1)`))
	p.Defs = append(p.Defs, more.Defs...)
	return p
}

// TestCopies: the copies of a round have together MaxCore nodes, or more, though what is left of them is little.
func TestCopies(t *testing.T) {
	const defs = `(def "no" () (Int -> Int) (global "no")) (def "u" (a) a (global "u" a))
		(def "i" () (Int -> Int) (lam "x" Int "x")) (def "id" (a) (a -> a) (lam "x" a "x")) (def "is" (a b) (Int -> Int) (lam "x" Int (case (global "u" (Pair a (Pair b b))) (else "x"))))
		(def "c" () ((List Int) -> Int) (lam "l" (List Int) (case "l" (con "Nil" () 0) (con "Cons" ("x" "y") (let (("z" Int (app (global "no") "x"))) (hard "w" Int "z" "w"))))))`
	// their nodes: a lambda is an Expr, a Bind, its type's and a zero Expr, and its body
	const i = `(app (global "i") 1)`                                            // 4; x
	const id = `(case (app (global "id" (List Int)) (con "Nil" Int)) (else 1))` // 5; x
	const is = `(app (global "is" Bool (List Int)) 1)`                          // 4; the case; u; Pair Bool (Pair (List Int) (List Int)); the Alt, x
	const c = `(app (global "c") (con "Nil" Int))`                              // 5; the case, l; the Alt, 0; the Alt, two Vars; the let, Bind, Int, three Exprs; the hard, Bind, Int, z; w
	size := map[string]int{i: 5, id: 6, is: 4 + 1 + 1 + 7 + 2, c: 5 + 2 + 2 + 3 + 6 + 4 + 1}
	types := map[string]int{id: 2, is: 3} // of the ExprGlobal
	for call, want := range size {
		p := mains(t, call, defs)
		if got := core.Size(simple(t, p, 1)) - core.Size(p) + 1 + types[call]; got != want {
			t.Errorf("%s: the copy has %d nodes, want %d", call, got, want)
		}
	}
	drop := func(calls []string) string { return `(case 1 (int 2 ` + tree(calls) + `) (else 7))` }
	for _, x := range []struct {
		calls map[string]int
		want  api.Errno
	}{
		{map[string]int{i: 20000}, api.OK},
		{map[string]int{i: 20001}, api.ErrBig},
		{map[string]int{id: 5, i: 19994}, api.OK},
		{map[string]int{id: 6, i: 19993}, api.ErrBig},
		{map[string]int{is: 6666, i: 2}, api.OK},
		{map[string]int{is: 6666, i: 1, id: 1}, api.ErrBig},
		{map[string]int{c: 4345, i: 13}, api.OK},
		{map[string]int{c: 4345, i: 12, id: 1}, api.ErrBig},
	} {
		var l []string
		sum := 0
		for call, n := range x.calls {
			l = append(l, times(n, call)...)
			sum += n * size[call]
		}
		if x.want == api.OK && sum != api.MaxCore || x.want != api.OK && (sum <= api.MaxCore || sum > api.MaxCore+5) {
			t.Fatal("the test is wrong:", sum)
		}
		p := mains(t, drop(l), defs)
		checkCode(t, fmt.Sprint(sum, " nodes of copies"), p, 1, x.want)
		if x.want == api.OK {
			checkSame(t, p, 1, mains(t, "7", defs))
			checkSame(t, p, 8, mains(t, "7", defs))
		} else {
			checkCode(t, fmt.Sprint(sum, " nodes of copies"), p, 0, api.OK)
			checkCode(t, fmt.Sprint(sum, " nodes of copies"), p, 8, api.ErrBig)
		}
	}
	// in several definitions; in the second round, when the first one has made the calls
	half := `(def "h" () Int ` + drop(times(10000, i)) + `)`
	checkCode(t, "two definitions", mains(t, drop(times(10000, i)), half+defs), 1, api.OK)
	checkCode(t, "two definitions", mains(t, drop(times(10001, i)), half+defs), 1, api.ErrBig)
	put := func(n int) api.Program {
		return mains(t, `(let (("h" (Int -> Int) (global "i"))) (case (global "never") (int 2 `+tree(times(n, `(app "h" 1)`))+`)))`, `(def "never" () Int (global "never"))`+defs)
	}
	checkCode(t, "in the second round", put(14000), 1, api.OK)
	checkCode(t, "in the second round", put(14000), 2, api.ErrBig) // 56000 nodes are left, and 70000 are made: together above
	// each round counts for itself: 75000 nodes, then 30000
	both := mains(t, drop(times(15000, i)), `(def "never" () Int (global "never")) (def "h" () Int (let (("h" (Int -> Int) (global "i"))) (case (global "never") (int 2 `+tree(times(6000, `(app "h" 1)`))+`))))`+defs)
	checkCode(t, "rounds one by one", both, 8, api.OK)
}

// TestMaxCore: a program that grows to MaxCore nodes, and above.
func TestMaxCore(t *testing.T) {
	great := lists(50)
	const defs = `(data M.D (a) ("M.D" (Pair a a) (Pair a a))) (def "no" () (Int -> Int) (global "no")) (def "u" (a) a (global "u" a)) (def "z" (a) ((List a) -> Int) (lam "l" (List a) (app (global "z" a) "l")))
		(def "k" (a b) (a -> (b -> a)) (lam "x" a (lam "y" b (seq "y" (seq "y" "x")))))`
	for _, x := range []struct{ what, main string }{
		{"by atoms", `(let (("x" (List G) (con "Nil" G))) ` + tree(times(3, `(app (global "z" G) "x")`)) + `)`},
		{"by copies", `(app (app (global "k" Int (List G)) (app (global "no") 1)) (global "u" (List G)))`},
		{"by cases", `(case (app (app (con "M.D" G) (global "u" (Pair G G))) (global "u" (Pair G G))) (con "M.D" ("x" "y") (case "x" (con "Pair" ("a" "b") (case "y" (else 1))))))`},
		{"by several", `(app (app (global "k" Int (Pair G G)) (let (("x" (List G) (con "Nil" G))) ` + tree(times(3, `(app (global "z" G) "x")`)) + `)) (global "u" (Pair G G)))`},
	} {
		p := mains(t, strings.ReplaceAll(x.main, "G", great), defs)
		ahead, most := core.Size(p), 0
		sizes := make([]int, api.MaxRounds+1)
		for rounds := 0; rounds <= api.MaxRounds; rounds++ {
			sizes[rounds] = core.Size(simple(t, p, rounds))
			most = max(most, sizes[rounds])
		}
		if most <= ahead+5 {
			t.Errorf("%s: %d nodes ahead, %d behind", x.what, ahead, most)
			continue
		}
		for more := -1; more <= 2; more++ {
			pad := api.MaxCore - most + more
			q := padded(t, p, pad)
			want := api.OK
			for rounds := 0; rounds <= api.MaxRounds; rounds++ {
				if sizes[rounds]+pad > api.MaxCore {
					want = api.ErrBig
				}
				checkCode(t, fmt.Sprint(x.what, " to ", api.MaxCore+more), q, rounds, want)
			}
			if (more > 0) != (want == api.ErrBig) {
				t.Fatal("the test is wrong:", x.what, more)
			}
		}
		checkCode(t, x.what, padded(t, p, api.MaxCore-ahead), api.MaxRounds, api.ErrBig)
	}
}

// deepCall writes calls of no within one another, so many deep with what is innermost, if that is a leaf.
func deepCall(levels int, inner string) string {
	return nested(levels-1, `(app (global "no") `, inner, ")")
}

// TestMaxDeep: an expression that becomes MaxDeep deep, and one deeper.
func TestMaxDeep(t *testing.T) {
	const no = `(def "no" () (Int -> Int) (global "no"))`
	for more, want := range []api.Errno{api.OK, api.ErrNest, api.ErrNest} {
		// a Value that is put in its place
		p := mains(t, `(let (("x" Int `+deepCall(2000, "1")+`)) `+deepCall(2001+more, `"x"`)+`)`, no)
		checkCode(t, fmt.Sprint("a Value, ", more, " too deep"), p, 1, want)
		checkCode(t, fmt.Sprint("a Value, ", more, " too deep"), p, 0, api.OK)
		if want == api.OK {
			checkSame(t, p, 1, mains(t, deepCall(api.MaxDeep, "1"), no))
		}
		// a copy
		h := `(def "h" () (Int -> Int) (lam "y" Int ` + deepCall(5, `"y"`) + `))`
		p = mains(t, deepCall(api.MaxDeep-1-1-5+1+more, `(app (global "h") 1)`), h+no)
		checkCode(t, fmt.Sprint("a copy, ", more, " too deep"), p, 1, want)
		checkCode(t, fmt.Sprint("a copy, ", more, " too deep"), p, 0, api.OK)
		if more == 2 {
			break // the programs below would be too deep ahead of the round
		}
		// a call that moves into a let: its argument is one level deeper there
		p = mains(t, `(app (let (("x" Int (app (global "no") 1))) (lam "y" Int (op + "x" (op + "x" "y")))) `+deepCall(api.MaxDeep-2+more, "1")+`)`, no)
		checkCode(t, fmt.Sprint("an argument, ", more, " too deep"), p, 1, want)
		checkCode(t, fmt.Sprint("an argument, ", more, " too deep"), p, 0, api.OK)
		// a case that does: its alternatives are
		p = mains(t, `(case (let (("x" Int (app (global "no") 1))) (op + "x" "x")) (int 1 `+deepCall(api.MaxDeep-2+more, "1")+`))`, no)
		checkCode(t, fmt.Sprint("an alternative, ", more, " too deep"), p, 1, want)
		checkCode(t, fmt.Sprint("an alternative, ", more, " too deep"), p, 0, api.OK)
	}
	// ErrBig is looked at first, in that round; a round ahead comes ahead
	deep := `(def "d" () Int (let (("x" Int ` + deepCall(2000, "1") + `)) ` + deepCall(2002, `"x"`) + `))`
	big := `(def "b" () Int (case 1 (int 2 ` + tree(times(20001, `(app (global "i") 1)`)) + `) (else 7)))`
	small := `(def "i" () (Int -> Int) (lam "x" Int "x"))`
	checkCode(t, "too deep", mains(t, "1", deep+no), 1, api.ErrNest)
	checkCode(t, "too great", mains(t, "1", big+no+small), 1, api.ErrBig)
	checkCode(t, "too deep and too great", mains(t, "1", deep+big+no+small), 1, api.ErrBig)
	checkCode(t, "too great and too deep", mains(t, "1", big+deep+no+small), 1, api.ErrBig)
	great := lists(400)
	atoms := `(def "b" () Int (let (("x" (List ` + great + `) (con "Nil" ` + great + `))) (seq (global "no" ) ` + nested(500, `(case "x" (con "Nil" () `, "1", "))") + `)))`
	checkCode(t, "a Size that is too great, and too deep", mains(t, "1", atoms+deep+no), 1, api.ErrBig)
	laterBig := `(def "b" () Int (let (("h" (Int -> Int) (global "i"))) (case (global "n") (int 2 ` + tree(times(14000, `(app "h" 1)`)) + `))))(def "n" () Int (global "n"))`
	checkCode(t, "too deep, and too great in the next round", mains(t, "1", laterBig+deep+no+small), 8, api.ErrNest)
	checkCode(t, "too great in the next round", mains(t, "1", laterBig+no+small), 8, api.ErrBig)
}

// TestSoon: W1: programs as great as may be, of whose forms some would take very long, if each rule went through all that lies within.
func TestSoon(t *testing.T) {
	const no = `(def "no" () (Int -> Int) (lam "x" Int (app (global "no") "x")))`
	long := make([]string, 20000)
	for i := range long {
		long[i] = fmt.Sprintf(`"x%d"`, i%3900)
	}
	uses := func(name string, n int) string { return tree(times(n, `"`+name+`"`)) }
	great := lists(400)
	many := strings.Repeat(" Int", 20000)
	params := numbers(20000, " a#")
	pairs := func(a string) string { return nested(27, "(Pair "+a+" ", a, ")") }
	vars := numbers(3000, `(seq (case (app (app (app (app (app (app (app (app (con "M.C" Int) "w") "w") "w") "w") "w") "w") "w") "w") (con "M.C" ("a#" "b#" "c#" "d#" "e#" "f#" "g#" "h#") 1)) `)
	for _, x := range []struct{ what, text string }{
		{"lets within one another, all of which the innermost needs", `(def "m" () Int ` + nested(3900, `(let (("x#" Int (app (global "no") #))) `, tree(long), ")") + `)` + no},
		{"lets within one another, each of which needs the one around it", `(def "m" () Int (let (("x0" Int (app (global "no") 0))) ` + nested(3900, `(let (("x$" Int (op + "x#" "x#"))) `, uses("x3900", 20000), ")") + `))` + no},
		{"Values put into one another", `(def "m" () Int (let (("x0" Int (app (global "no") 0))) ` + nested(1900, `(let (("x$" Int `+deepCall(10, `"x#"`)+`)) `, `"x1900"`, ")") + `))` + no},
		{"many Values put into one another", `(def "m" () Int (let (("x0" Int (app (global "no") 0))) ` + nested(3800, `(let (("x$" Int `+deepCall(11, `"x#"`)+`)) `, `"x3800"`, ")") + `))` + no},
		{"Values put into one another, each of which is deep", `(def "m" () Int (let (("x0" Int (app (global "no") 0))) ` + nested(30, `(let (("x$" Int `+deepCall(900, `"x#"`)+`)) `, `"x30"`, ")") + `))` + no},
		{"a let with many Binds that need one another", `(def "m" () Int (let (` + numbers(12000, `("x#" Int (op + "x$" "x$"))`) + `("x12000" Int (app (global "no") 1))) "x0"))` + no},
		{"a let with many Binds that are needed once", `(def "m" () Int (let (` + numbers(12000, `("x#" Int (app (global "no") "x$"))`) + `("x12000" Int (app (global "no") 1))) "x0"))` + no},
		{"a let with many Binds, none of which is needed", `(def "m" () Int (let (` + numbers(15000, `("x#" Int (op + "x$" "x#"))`) + `("x15000" Int "x0")) 5))`},
		{"a let with many atoms", `(def "m" () Int (let (` + numbers(20000, `("x#" Int #)`) + `) (op + "x1" "x19999")))`},
		{"a local that is spoken of very often, deep down", `(def "m" () Int (let (("x" Int (app (global "no") 0))) ` + deepCall(3900, uses("x", 40000)) + `))` + no},
		{"a Value that speaks of itself very often, deep down", `(def "m" () Int (let (("x" Int ` + deepCall(3900, uses("x", 40000)) + `)) 5))` + no},
		{"an atom with a great type, spoken of very often", `(def "m" () Int (let (("x" (List ` + great + `) (con "Nil" ` + great + `))) ` + tree(times(15000, `(case "x" (else 1))`)) + `))`},
		{"an atom with very many types, spoken of very often", `(def "m" () Int (let (("x" Int (global "p"` + many + `))) ` + uses("x", 20000) + `)) (def "p" (` + params + `) Int 1)`},
		{"calls with very many types", `(def "m" () Int (app (app (global "p"` + many + `) 2) 3)) (def "p" (` + params + `) (Int -> (Int -> Int)) (lam "x" Int (lam "y" Int "x")))`},
		{"constructors with great fields", `(data M.T (a) ("M.C"` + strings.Repeat(" "+pairs("a"), 8) + `)) (def "m" () (` + pairs("Int") + ` -> Int) (lam "w" ` + pairs("Int") + ` ` + vars + "1" + strings.Repeat(")", 3000) + `))`},
		{"definitions in a row", `(def "d30000" () Int 1)` + numbers(30000, `(def "d#" () Int (global "d$"))`)},
		{"definitions in a ring", `(def "d15000" () (Int -> Int) (global "d0"))` + numbers(15000, `(def "d#" () (Int -> Int) (global "d$"))`)},
		{"calls within one another", `(def "m" () Int ` + nested(3900, `(app (global "i") `, "1", ")") + `) (def "i" () (Int -> Int) (lam "x" Int "x"))`},
		{"twice of twice", `(def "t" (a) ((a -> a) -> (a -> a)) (lam "f" (a -> a) (lam "x" a (app "f" (app "f" "x"))))) (def "m" () Int (app (app (app (app (app (global "t" (((Int -> Int) -> (Int -> Int)) -> ((Int -> Int) -> (Int -> Int)))) (global "t" ((Int -> Int) -> (Int -> Int)))) (global "t" (Int -> Int))) (global "t" Int)) (lam "y" Int (op + "y" 1))) 0))`},
		{"a case with very many alternatives", `(def "m" () Int (case 19999 ` + numbers(20000, `(int # (op + # 1))`) + `))`},
		{"cases within one another, which are stuck", `(def "m" () Int ` + nested(3900, `(case (fail 1 Int) (int # `, "1", "))") + `)`},
		{"alternatives' locals within one another", `(def "m" () ((List Int) -> Int) (lam "l0" (List Int) ` + nested(1900, `(case "l#" (con "Cons" ("x#" "l$") (seq (fail 1 Int) `, "1", ")))") + `))`},
	} {
		p, code := core.Read(x.text)
		if code != api.OK || core.Check(p) != api.OK {
			t.Fatal("the test is wrong:", x.what, code, core.Check(p))
		}
		soon(t, x.what, func() {
			for _, rounds := range []int{1, 8} {
				_, code := simplify.Simplify(p, rounds)
				if code != api.OK && code != api.ErrBig && code != api.ErrNest {
					t.Error(x.what, code)
				}
			}
		})
	}
}
