package lift_test

import (
	"slices"
	"strings"
	"testing"

	"sloth/api"
)

const (
	g = `(def "g" () ((Int -> Int) -> Int) (lam "ga" (Int -> Int) (app "ga" 1)))` // takes a function
	l = `(def "l" () (List Int) (con "Nil" Int))`
)

// TestExamples: the chapter's table, names of locals and all.
func TestExamples(t *testing.T) {
	for _, x := range []struct{ text, want string }{
		{`(def "f" () (Int -> (Int -> Int)) (lam "x" Int (lam "y" Int "x")))`, `(def "f" () (Int -> (Int -> Int)) (lam "x" Int (lam "y" Int "x")))`},
		{fun("f", `(lam "x" Int (app (global "g") (lam "y" Int (op + "x" "y"))))`) + g,
			fun("f", `(lam "x" Int (app (global "g") (app (global "f$1") "x")))`) + `(def "f$1" () (Int -> (Int -> Int)) (lam "x" Int (lam "y" Int (op + "x" "y"))))` + g},
		{fun("f", `(lam "x" Int (let (("h" (Int -> Int) (lam "y" Int (app "h" (op + "y" "x"))))) (app "h" 1)))`),
			fun("f", `(lam "x" Int (app (app (global "f$1") "x") 1))`) + `(def "f$1" () (Int -> (Int -> Int)) (lam "x" Int (lam "y" Int (app (app (global "f$1") "x") (op + "y" "x")))))`},
		{`(def "f" () (Int -> (Int -> Int)) (lam "x" Int (lam "z" Int (let (("a" (Int -> Int) (lam "y" Int (app "b" "y"))) ("b" (Int -> Int) (lam "w" Int (app "a" (op + "w" "x")))) ("c" (Int -> Int) (lam "v" Int "z"))) (app "c" (app "a" 1))))))`,
			`(def "f" () (Int -> (Int -> Int)) (lam "x" Int (lam "z" Int (app (app (global "f$3") "z") (app (app (global "f$1") "x") 1)))))
			(def "f$1" () (Int -> (Int -> Int)) (lam "x" Int (lam "y" Int (app (app (global "f$2") "x") "y"))))
			(def "f$2" () (Int -> (Int -> Int)) (lam "x" Int (lam "w" Int (app (app (global "f$1") "x") (op + "w" "x")))))
			(def "f$3" () (Int -> (Int -> Int)) (lam "z" Int (lam "v" Int "z")))`},
		{`(def "f" () (List Int) (let (("s" (List Int) (app (app (con "Cons" Int) 1) (app "g" "s"))) ("g" ((List Int) -> (List Int)) (lam "l" (List Int) (app (app (con "Cons" Int) 2) "s")))) "s"))`,
			`(def "f" () (List Int) (let (("s" (List Int) (app (app (con "Cons" Int) 1) (app (app (global "f$1") "s") "s")))) "s"))
			(def "f$1" () ((List Int) -> ((List Int) -> (List Int))) (lam "s" (List Int) (lam "l" (List Int) (app (app (con "Cons" Int) 2) "s"))))`},
		{`(def "f" () (Int -> (Int -> Int)) (let (("h" (Int -> (Int -> Int)) (lam "x" Int (lam "y" Int "x")))) "h"))`,
			`(def "f" () (Int -> (Int -> Int)) (global "f$1")) (def "f$1" () (Int -> (Int -> Int)) (lam "x" Int (lam "y" Int "x")))`},
		{fun("f", `(app (lam "x" (List Int) (case "x" (con "Cons" ("a" "b") (lam "y" Int (op + "a" "y"))) (else (lam "z" Int "z")))) (global "l"))`) + l,
			fun("f", `(app (global "f$1") (global "l"))`) + `(def "f$1" () ((List Int) -> (Int -> Int)) (lam "x" (List Int) (case "x" (con "Cons" ("a" "b") (app (global "f$2") "a")) (else (global "f$3")))))
			(def "f$2" () (Int -> (Int -> Int)) (lam "a" Int (lam "y" Int (op + "a" "y"))))` + fun("f$3", `(lam "z" Int "z")`) + l},
		{fun("f", `(app (lam "x" (List Int) (case "x" (con "Cons" ("a" "b") (lam "y" Int (op + "a" "y"))) (else (lam "z" Int "z")))) (global "l"))`) + l + def("f$2", "0"),
			fun("f", `(app (global "f$1") (global "l"))`) + `(def "f$1" () ((List Int) -> (Int -> Int)) (lam "x" (List Int) (case "x" (con "Cons" ("a" "b") (app (global "f$3") "a")) (else (global "f$4")))))
			(def "f$3" () (Int -> (Int -> Int)) (lam "a" Int (lam "y" Int (op + "a" "y"))))` + fun("f$4", `(lam "z" Int "z")`) + l + def("f$2", "0")},
	} {
		checkLifted(t, x.text, x.want)
	}
}

// TestNone: P13.1: where there is no inner function, all stays.
func TestNone(t *testing.T) {
	for _, text := range []string{
		"", def("m", "1"), def("m", `(global "m")`), fun("m", `(lam "x" Int "x")`),
		`(data M.T (a) ("M.A" a (M.T a)) ("M.B")) (data M.E () ("M.R" (Int -> Int)))`,
		`(data M.T (a) ("M.A" a (M.T a)) ("M.B"))` + def("m", `(case (con "M.B" Int) (else 2))`) + `(def "c" () (Int -> ((M.T Int) -> (M.T Int))) (con "M.A" Int))` + fun("s", `(lam "x" Int (seq (fail 2 (Int -> Int)) (op / "x" 0)))`),
		`(def "m" () ((List Int) -> Int) (lam "l" (List Int) (let (("n" Int (case "l" (con "Nil" () 0) (con "Cons" ("x" "t") (op + "x" "k")))) ("k" Int (app (global "m") (con "Nil" Int)))) (let (("f" (Int -> Int) "h") ("h" (Int -> Int) (fail 1 (Int -> Int)))) (app "f" "n")))))`,
		`(def "m" () ` + arrows(api.MaxArity, "Int") + ` ` + lams(api.MaxArity, "x", `"x3"`) + `)`,
	} {
		checkLifted(t, text, text)
	}
}

// TestPlaces: P13.1: functions become definitions in the order of their places: from the outside, Values ahead of Args ahead of Bodies; those within a function behind it.
func TestPlaces(t *testing.T) {
	// each function is told by the number that it comes to
	fn := func(n string) string { return `(lam "x` + n + `" Int ` + n + `)` }
	of := func(n string, within string) string { return `(lam "x` + n + `" Int (seq ` + within + ` ` + n + `))` }
	for _, x := range []struct{ typ, body, want string }{
		{"Int", `(app ` + fn("1") + ` 0)`, "1"},
		{"Int", `(app (app (lam "a" (Int -> Int) (lam "b" Int 1)) ` + fn("2") + `) (app ` + fn("3") + ` 0))`, "1 2 3"},
		{"Int", `(let (("a" (Int -> Int) ` + fn("1") + `) ("n" Int (app ` + fn("2") + ` 0)) ("b" (Int -> Int) ` + fn("3") + `)) (app ` + fn("4") + ` (app "b" 1)))`, "1 2 3 4"},
		{"Int", `(case (app ` + fn("1") + ` 0) (int 1 (app ` + fn("2") + ` 0)) (int 0 (app ` + fn("3") + ` 0)) (else (app ` + fn("4") + ` 0)))`, "1 2 3 4"},
		{"Int", `(op + (app ` + fn("1") + ` 0) (app ` + fn("2") + ` 0))`, "1 2"},
		{"(Int -> Int)", `(seq ` + fn("1") + ` ` + fn("2") + `)`, "1 2"},
		{"Int", `(seq ` + of("1", of("2", fn("3"))) + ` (app ` + of("4", `(op + (app `+fn("5")+` 1) (app `+fn("6")+` 1))`) + ` 2))`, "1 2 3 4 5 6"},
		{"Int", `(let (("a" (Int -> Int) ` + of("1", `(let (("c" (Int -> Int) `+of("2", fn("3"))+`) ("d" (Int -> Int) `+fn("4")+`)) `+fn("5")+`)`) + `) ("b" (Int -> Int) ` + fn("6") + `)) (case (app ` + fn("7") + ` 1) (else (app ` + fn("8") + ` 1))))`, "1 2 3 4 5 6 7 8"},
		{"(Int -> Int)", `(lam "y" Int (case (let (("n" Int (seq ` + fn("1") + ` 1))) (seq ` + fn("2") + ` "n")) (int 5 (seq ` + fn("3") + ` 1)) (else (let (("k" (Int -> Int) ` + fn("4") + `)) (app "k" (app ` + fn("5") + ` 1))))))`, "1 2 3 4 5"},
	} {
		q := lifted(t, read(t, `(def "f" () `+x.typ+` `+x.body+`)`))
		var got []string
		for i, d := range q.Defs {
			if i == 0 {
				continue
			}
			if want := "f$" + string(rune('0'+i)); d.Name != want {
				t.Errorf("%s: a function is called %s, want %s", x.body, d.Name, want)
			}
			_, body := arity(d.Body)
			for body.Kind == api.ExprSeq {
				body = body.Args[1]
			}
			got = append(got, string(rune('0'+body.Num)))
		}
		if strings.Join(got, " ") != x.want {
			t.Errorf("%s: %s, want %s", x.body, got, x.want)
		}
	}
}

// TestOwn: the own lambdas of a function go with it, those of a definition stay; a lambda behind anything else is an inner function.
func TestOwn(t *testing.T) {
	checkLifted(t, fun("f", `(lam "x" Int (app (app (app (lam "a" Int (lam "b" Int (lam "c" Int (op + "b" "x")))) 1) 2) 3))`),
		fun("f", `(lam "x" Int (app (app (app (app (global "f$1") "x") 1) 2) 3))`)+`(def "f$1" () `+arrows(4, "Int")+` (lam "x" Int (lam "a" Int (lam "b" Int (lam "c" Int (op + "b" "x"))))))`)
	// behind a seq, a let, a case
	checkLifted(t, `(def "f" () (Int -> (Int -> Int)) (lam "x" Int (seq "x" (lam "y" Int "x"))))`, `(def "f" () (Int -> (Int -> Int)) (lam "x" Int (seq "x" (app (global "f$1") "x")))) (def "f$1" () (Int -> (Int -> Int)) (lam "x" Int (lam "y" Int "x")))`)
	checkLifted(t, `(def "f" () (Int -> (Int -> Int)) (lam "x" Int (let (("n" Int (op + "x" 1))) (lam "y" Int (op * "n" "y")))))`, `(def "f" () (Int -> (Int -> Int)) (lam "x" Int (let (("n" Int (op + "x" 1))) (app (global "f$1") "n")))) (def "f$1" () (Int -> (Int -> Int)) (lam "n" Int (lam "y" Int (op * "n" "y"))))`)
	checkLifted(t, `(def "f" () (Int -> (Int -> (Int -> Int))) (lam "x" Int (case "x" (int 0 (lam "y" Int (lam "z" Int "y"))) (else (lam "u" Int (seq "u" (lam "v" Int "x")))))))`,
		`(def "f" () (Int -> (Int -> (Int -> Int))) (lam "x" Int (case "x" (int 0 (global "f$1")) (else (app (global "f$2") "x")))))
		(def "f$1" () (Int -> (Int -> Int)) (lam "y" Int (lam "z" Int "y")))
		(def "f$2" () (Int -> (Int -> (Int -> Int))) (lam "x" Int (lam "u" Int (seq "u" (app (global "f$3") "x")))))
		(def "f$3" () (Int -> (Int -> Int)) (lam "x" Int (lam "v" Int "x")))`)
	// a let that gives place to a lambda makes no own lambda of that
	checkLifted(t, fun("f", `(let (("h" (Int -> Int) (lam "x" Int "x"))) (lam "y" Int (app "h" "y")))`), fun("f", `(global "f$2")`)+fun("f$1", `(lam "x" Int "x")`)+fun("f$2", `(lam "y" Int (app (global "f$1") "y"))`))
	checkLifted(t, `(def "f" () (Int -> (Int -> Int)) (lam "z" Int (let (("h" (Int -> Int) (lam "x" Int "z"))) (lam "y" Int (app "h" "y")))))`,
		`(def "f" () (Int -> (Int -> Int)) (lam "z" Int (app (global "f$2") "z"))) (def "f$1" () (Int -> (Int -> Int)) (lam "z" Int (lam "x" Int "z"))) (def "f$2" () (Int -> (Int -> Int)) (lam "z" Int (lam "y" Int (app (app (global "f$1") "z") "y"))))`)
	// functions that begin at once within others
	checkLifted(t, def("f", `(app (app (lam "x" Int (app (lam "y" Int (lam "z" Int (op + "x" (op + "y" "z")))) 1)) 2) 3)`),
		def("f", `(app (app (global "f$1") 2) 3)`)+`(def "f$1" () (Int -> (Int -> Int)) (lam "x" Int (app (app (global "f$2") "x") 1))) (def "f$2" () (Int -> (Int -> (Int -> Int))) (lam "x" Int (lam "y" Int (lam "z" Int (op + "x" (op + "y" "z"))))))`)
}

// TestGiven: what a function is given: lambdas', lets' and alternatives' locals, in the order in which these are bound; no names of functions, no own ones.
func TestGiven(t *testing.T) {
	// the order is that of the locals, whatever is spoken of first
	checkLifted(t, `(def "f" () `+arrows(3, "Int")+` (lam "a" Int (lam "b" Int (lam "c" Int (app (lam "x" Int (op + "c" (op + "b" "a"))) 1)))))`,
		`(def "f" () `+arrows(3, "Int")+` (lam "a" Int (lam "b" Int (lam "c" Int (app (app (app (app (global "f$1") "a") "b") "c") 1))))) (def "f$1" () `+arrows(4, "Int")+` (lam "a" Int (lam "b" Int (lam "c" Int (lam "x" Int (op + "c" (op + "b" "a")))))))`)
	// names that would stand in another order by their letters; a name that stands often; one that is bound within; one that only its own function binds
	checkLifted(t, `(def "f" () `+arrows(2, "Int")+` (lam "z" Int (lam "a" Int (app (lam "m" Int (let (("n" Int (op + "a" "m"))) (op + "n" (op + "a" (op + "z" (op + "m" "z")))))) 1))))`,
		`(def "f" () `+arrows(2, "Int")+` (lam "z" Int (lam "a" Int (app (app (app (global "f$1") "z") "a") 1)))) (def "f$1" () `+arrows(3, "Int")+` (lam "z" Int (lam "a" Int (lam "m" Int (let (("n" Int (op + "a" "m"))) (op + "n" (op + "a" (op + "z" (op + "m" "z")))))))))`)
	// of a lambda, an alternative and a let: a let's names ahead of what its Values bind, an alternative's when its body's turn comes, behind what is looked at
	const pair = `(Pair Int (List Int))`
	checkLifted(t, `(def "f" () (`+pair+` -> Int) (lam "p" `+pair+`
			(let (("n" Int (case (let (("i" Int 1)) (app (app (con "Pair" Int Int) "i") 2)) (con "Pair" ("u" "v") (app (lam "x" Int (op + "m" (op + "v" (op + "n" "u")))) 1)))) ("m" Int 3))
				(case "p" (con "Pair" ("b" "a") (case "a" (con "Cons" ("d" "c") (app (lam "y" Int (seq "a" (seq "p" (op + "d" (op + "b" (op + "m" "n")))))) 2)) (else (app (lam "w" Int (seq "a" "w")) 3))))))))`,
		`(def "f" () (`+pair+` -> Int) (lam "p" `+pair+`
			(let (("n" Int (case (let (("i" Int 1)) (app (app (con "Pair" Int Int) "i") 2)) (con "Pair" ("u" "v") (app (app (app (app (app (global "f$1") "n") "m") "u") "v") 1)))) ("m" Int 3))
				(case "p" (con "Pair" ("b" "a") (case "a" (con "Cons" ("d" "c") (app (app (app (app (app (app (app (global "f$2") "p") "n") "m") "b") "a") "d") 2)) (else (app (app (global "f$3") "a") 3))))))))
		(def "f$1" () `+arrows(5, "Int")+` (lam "n" Int (lam "m" Int (lam "u" Int (lam "v" Int (lam "x" Int (op + "m" (op + "v" (op + "n" "u")))))))))
		(def "f$2" () (`+pair+` -> `+arrows(3, `((List Int) -> `+arrows(2, "Int")+`)`)+`) (lam "p" `+pair+` (lam "n" Int (lam "m" Int (lam "b" Int (lam "a" (List Int) (lam "d" Int (lam "y" Int (seq "a" (seq "p" (op + "d" (op + "b" (op + "m" "n")))))))))))))
		(def "f$3" () ((List Int) -> (Int -> Int)) (lam "a" (List Int) (lam "w" Int (seq "a" "w"))))`)
	// what a function within another speaks of, that one speaks of too, but for what it binds
	checkLifted(t, `(def "f" () `+arrows(2, "Int")+` (lam "a" Int (lam "b" Int (app (lam "x" Int (let (("n" Int 1)) (app (lam "y" Int (op + "b" (op + "x" "n"))) "a"))) 2))))`,
		`(def "f" () `+arrows(2, "Int")+` (lam "a" Int (lam "b" Int (app (app (app (global "f$1") "a") "b") 2)))) (def "f$1" () `+arrows(3, "Int")+` (lam "a" Int (lam "b" Int (lam "x" Int (let (("n" Int 1)) (app (app (app (app (global "f$2") "b") "x") "n") "a"))))))
		(def "f$2" () `+arrows(4, "Int")+` (lam "b" Int (lam "x" Int (lam "n" Int (lam "y" Int (op + "b" (op + "x" "n")))))))`)
	// a local of a function type is a local as others are, be it a lambda's, or of a let whose Value is no lambda
	checkLifted(t, `(def "f" () ((Int -> Int) -> Int) (lam "h" (Int -> Int) (let (("k" (Int -> Int) "h") ("j" (Int -> Int) (seq 1 "k"))) (app (lam "x" Int (app "j" (app "k" (app "h" "x")))) 1))))`,
		`(def "f" () ((Int -> Int) -> Int) (lam "h" (Int -> Int) (let (("k" (Int -> Int) "h") ("j" (Int -> Int) (seq 1 "k"))) (app (app (app (app (global "f$1") "h") "k") "j") 1))))
		(def "f$1" () ((Int -> Int) -> ((Int -> Int) -> ((Int -> Int) -> (Int -> Int)))) (lam "h" (Int -> Int) (lam "k" (Int -> Int) (lam "j" (Int -> Int) (lam "x" Int (app "j" (app "k" (app "h" "x"))))))))`)
}

// TestNeeded: what a function is given for the functions that it needs: directly, over a third, in a ring, from within others.
func TestNeeded(t *testing.T) {
	// over a third: a needs b, b needs c, which alone speaks of x and y; d needs none
	checkLifted(t, `(def "f" () `+arrows(3, "Int")+` (lam "x" Int (lam "y" Int (lam "z" Int (let (("a" (Int -> Int) (lam "p" Int (app "b" "p"))) ("b" (Int -> Int) (lam "q" Int (app "c" "q"))) ("c" (Int -> Int) (lam "r" Int (op + "y" "x"))) ("d" (Int -> Int) (lam "s" Int "s"))) (op + (app "a" 1) (app "d" "z")))))))`,
		`(def "f" () `+arrows(3, "Int")+` (lam "x" Int (lam "y" Int (lam "z" Int (op + (app (app (app (global "f$1") "x") "y") 1) (app (global "f$4") "z"))))))
		(def "f$1" () `+arrows(3, "Int")+` (lam "x" Int (lam "y" Int (lam "p" Int (app (app (app (global "f$2") "x") "y") "p")))))
		(def "f$2" () `+arrows(3, "Int")+` (lam "x" Int (lam "y" Int (lam "q" Int (app (app (app (global "f$3") "x") "y") "q")))))
		(def "f$3" () `+arrows(3, "Int")+` (lam "x" Int (lam "y" Int (lam "r" Int (op + "y" "x")))))`+fun("f$4", `(lam "s" Int "s")`))
	// a ring over a third: all are given the same, though each speaks of one; what needs the ring from outside is given that, and its own; what the ring needs is given no more
	ring := `("a" (Int -> Int) (lam "p" Int (op + "x" (app "b" "p")))) ("b" (Int -> Int) (lam "q" Int (op + "y" (app "c" (app "e" "q"))))) ("c" (Int -> Int) (lam "r" Int (op + "z" (app "a" "r")))) ("d" (Int -> Int) (lam "s" Int (app "b" (op + "w" "s")))) ("e" (Int -> Int) (lam "t" Int (op * "x" "t")))`
	three := func(name string) string { return `(app (app (app (global "` + name + `") "x") "y") "z")` }
	checkLifted(t, `(def "f" () `+arrows(4, "Int")+` (lam "w" Int (lam "x" Int (lam "y" Int (lam "z" Int (let (`+ring+`) (app "d" 1)))))))`,
		`(def "f" () `+arrows(4, "Int")+` (lam "w" Int (lam "x" Int (lam "y" Int (lam "z" Int (app (app (app (app (app (global "f$4") "w") "x") "y") "z") 1))))))
		(def "f$1" () `+arrows(4, "Int")+` (lam "x" Int (lam "y" Int (lam "z" Int (lam "p" Int (op + "x" (app `+three("f$2")+` "p")))))))
		(def "f$2" () `+arrows(4, "Int")+` (lam "x" Int (lam "y" Int (lam "z" Int (lam "q" Int (op + "y" (app `+three("f$3")+` (app (app (global "f$5") "x") "q"))))))))
		(def "f$3" () `+arrows(4, "Int")+` (lam "x" Int (lam "y" Int (lam "z" Int (lam "r" Int (op + "z" (app `+three("f$1")+` "r")))))))
		(def "f$4" () `+arrows(5, "Int")+` (lam "w" Int (lam "x" Int (lam "y" Int (lam "z" Int (lam "s" Int (app `+three("f$2")+` (op + "w" "s"))))))))
		(def "f$5" () `+arrows(2, "Int")+` (lam "x" Int (lam "t" Int (op * "x" "t"))))`)
	// a function without a name that needs one; one within the function that it needs, which it is not given more for: v is bound there, and it does not speak of v
	checkLifted(t, `(def "f" () `+arrows(2, "Int")+` (lam "x" Int (lam "y" Int (let (("h" (Int -> Int) (lam "v" Int (app (lam "u" Int (app "h" (op + "y" "u"))) (op + "v" (app (lam "w" Int "v") 1)))))) (app (lam "k" Int (app "h" "x")) 1)))))`,
		`(def "f" () `+arrows(2, "Int")+` (lam "x" Int (lam "y" Int (app (app (app (global "f$4") "x") "y") 1))))
		(def "f$1" () `+arrows(2, "Int")+` (lam "y" Int (lam "v" Int (app (app (global "f$2") "y") (op + "v" (app (app (global "f$3") "v") 1))))))
		(def "f$2" () `+arrows(2, "Int")+` (lam "y" Int (lam "u" Int (app (app (global "f$1") "y") (op + "y" "u")))))
		(def "f$3" () `+arrows(2, "Int")+` (lam "v" Int (lam "w" Int "v")))
		(def "f$4" () `+arrows(3, "Int")+` (lam "x" Int (lam "y" Int (lam "k" Int (app (app (global "f$1") "y") "x")))))`)
	// functions of a let within another function: they are given what that binds, and so is who needs them there, but not the one around
	checkLifted(t, fun("f", `(lam "x" Int (let (("a" (Int -> Int) (lam "p" Int (let (("b" (Int -> Int) (lam "q" Int (op + "p" (op + "x" (app "a" "q"))))) ("c" (Int -> Int) (lam "r" Int (app "b" "r")))) (app "c" "p"))))) (app "a" 1)))`),
		fun("f", `(lam "x" Int (app (app (global "f$1") "x") 1))`)+
			`(def "f$1" () `+arrows(2, "Int")+` (lam "x" Int (lam "p" Int (app (app (app (global "f$3") "x") "p") "p"))))
		(def "f$2" () `+arrows(3, "Int")+` (lam "x" Int (lam "p" Int (lam "q" Int (op + "p" (op + "x" (app (app (global "f$1") "x") "q")))))))
		(def "f$3" () `+arrows(3, "Int")+` (lam "x" Int (lam "p" Int (lam "r" Int (app (app (app (global "f$2") "x") "p") "r")))))`)
	// one that no one needs is there too
	checkLifted(t, fun("f", `(lam "x" Int (let (("a" (Int -> Int) (lam "p" Int "x"))) 5))`), fun("f", `(lam "x" Int 5)`)+`(def "f$1" () `+arrows(2, "Int")+` (lam "x" Int (lam "p" Int "x")))`)
	// a function is given a local of its own let, or of one around it, that is no function, though that needs it
	checkLifted(t, def("f", `(let (("h" (Int -> Int) (lam "x" Int (op + "n" "x"))) ("n" Int (app "h" "k")) ("k" Int 3)) (app "h" "n"))`),
		def("f", `(let (("n" Int (app (app (global "f$1") "n") "k")) ("k" Int 3)) (app (app (global "f$1") "n") "n"))`)+`(def "f$1" () `+arrows(2, "Int")+` (lam "n" Int (lam "x" Int (op + "n" "x"))))`)
}

// TestLets: an ExprLet loses its functions, and gives place to its body when it has no Bind left, wherever it stands; what is left keeps its order.
func TestLets(t *testing.T) {
	const id1, id2 = `("a" (Int -> Int) (lam "x" Int "x"))`, `("b" (Int -> Int) (lam "y" Int "y"))`
	both := fun("f$1", `(lam "x" Int "x")`) + fun("f$2", `(lam "y" Int "y")`)
	const one, two = `(global "f$1")`, `(global "f$2")`
	for _, x := range []struct{ body, want string }{
		{`(let (` + id1 + ` ` + id2 + `) (app "a" (app "b" 1)))`, `(app ` + one + ` (app ` + two + ` 1))`},
		{`(let (` + id1 + `) (let (` + id2 + `) (app "b" (app "a" 1))))`, `(app ` + two + ` (app ` + one + ` 1))`},
		{`(let (` + id1 + ` ("n" Int 1) ` + id2 + `) (op + "n" (app "a" (app "b" "n"))))`, `(let (("n" Int 1)) (op + "n" (app ` + one + ` (app ` + two + ` "n"))))`},
		{`(let (("k" Int (app "b" "n")) ` + id1 + ` ("n" Int (app "a" 1)) ("m" Int "k") ` + id2 + `) "m")`, `(let (("k" Int (app ` + two + ` "n")) ("n" Int (app ` + one + ` 1)) ("m" Int "k")) "m")`},
		{`(let (("n" Int (let (` + id1 + `) (app "a" 1)))) (let (` + id2 + ` ("m" Int (app "b" 2))) (op + "n" "m")))`, `(let (("n" Int (app ` + one + ` 1))) (let (("m" Int (app ` + two + ` 2))) (op + "n" "m")))`},
		{`(op + (let (` + id1 + `) 1) (case (let (` + id2 + `) (app "b" 3)) (int 3 (fail 1 Int)) (else 2)))`, `(op + 1 (case (app ` + two + ` 3) (int 3 (fail 1 Int)) (else 2)))`},
		{`(app (let (` + id1 + `) "a") (app (let (` + id2 + `) (seq 1 "b")) 2))`, `(app ` + one + ` (app (seq 1 ` + two + `) 2))`},
		{`(case 1 (int 1 (let (` + id1 + `) (app "a" 2))) (else (let (` + id2 + `) (app "b" 3))))`, `(case 1 (int 1 (app ` + one + ` 2)) (else (app ` + two + ` 3)))`},
		{`(let (("h" (Int -> Int) "a") ` + id1 + ` ` + id2 + `) (app "h" 1))`, `(let (("h" (Int -> Int) ` + one + `)) (app "h" 1))`},
	} {
		checkLifted(t, def("f", x.body), def("f", x.want)+both)
	}
	// the Value of what stays may be a function that is not the whole of it
	checkLifted(t, def("f", `(let (("h" (Int -> Int) (seq 1 (lam "x" Int "x")))) (app "h" 1))`), def("f", `(let (("h" (Int -> Int) (seq 1 (global "f$1")))) (app "h" 1))`)+fun("f$1", `(lam "x" Int "x")`))
	checkLifted(t, def("f", `(let (("h" (Int -> Int) (let (("n" Int 1)) (lam "x" Int "n")))) (app "h" 1))`), def("f", `(let (("h" (Int -> Int) (let (("n" Int 1)) (app (global "f$1") "n")))) (app "h" 1))`)+`(def "f$1" () `+arrows(2, "Int")+` (lam "n" Int (lam "x" Int "n")))`)
	// a let's Value that is a let of a function alone, though it gives place to its call, is no named function
	checkLifted(t, def("f", `(let (("h" (Int -> Int) (let (("k" (Int -> Int) (lam "x" Int "x"))) "k")) ("n" Int 2)) (app "h" "n"))`), def("f", `(let (("h" (Int -> Int) (global "f$1")) ("n" Int 2)) (app "h" "n"))`)+fun("f$1", `(lam "x" Int "x")`))
}

// TestNames: the name of a function alone, as an argument, as a field, as a Value, looked at by seq, applied to fewer and to all.
func TestNames(t *testing.T) {
	const h = `("h" (Int -> (Int -> Int)) (lam "a" Int (lam "b" Int (op + "z" "a"))))`
	const call = `(app (global "f$1") "z")`
	for _, x := range []struct{ typ, body string }{
		{"(Int -> (Int -> Int))", `"h"`},
		{"(Int -> Int)", `(app "h" 1)`},
		{"Int", `(app (app "h" 1) 2)`},
		{"Int", `(app (app "h" (app (app "h" 1) 2)) 3)`},
		{"Int", `(app (global "g") (app "h" 1))`},
		{"(Int -> Int)", `(app (app (global "t") "h") "h")`},
		{"(Pair (Int -> Int) (Int -> (Int -> Int)))", `(app (app (con "Pair" (Int -> Int) (Int -> (Int -> Int))) (app "h" 1)) "h")`},
		{"(Int -> (Int -> Int))", `(let (("k" (Int -> (Int -> Int)) "h") ("n" Int (app (app "k" 1) 2))) (seq "n" "k"))`},
		{"Int", `(seq "h" 1)`},
		{"(Int -> (Int -> Int))", `(case "z" (int 1 "h") (else (case (con "Nil" Int) (con "Cons" ("u" "v") "h") (con "Nil" () (seq "z" "h")))))`},
		{"Int", `(op * (app (app "h" "z") "z") (app (app "h" 1) 2))`},
	} {
		// what stands in the place of h is its call, and nothing else changes
		want := strings.ReplaceAll(x.body, `"h"`, call)
		const more = `(def "t" () ((Int -> (Int -> Int)) -> ((Int -> (Int -> Int)) -> (Int -> Int))) (lam "u" (Int -> (Int -> Int)) (lam "v" (Int -> (Int -> Int)) (app "u" 1))))` + g
		checkLifted(t, `(def "f" () (Int -> `+x.typ+`) (lam "z" Int (let (`+h+`) `+x.body+`)))`+more, `(def "f" () (Int -> `+x.typ+`) (lam "z" Int `+want+`)) (def "f$1" () `+arrows(3, "Int")+` (lam "z" Int (lam "a" Int (lam "b" Int (op + "z" "a")))))`+more)
	}
}

// TestNumbers: numbers are dealt by the places, for each definition from 1 on, and passed over where p has a definition of that name, ahead of it or behind it.
func TestNumbers(t *testing.T) {
	three := func(name string) string {
		return def(name, `(op + (app (lam "x" Int 1) 1) (op + (app (lam "y" Int 1) 1) (app (lam "z" Int 1) 1)))`)
	}
	checkNames(t, three("f"), "f f$1 f$2 f$3")
	checkNames(t, three("f")+three("h"), "f f$1 f$2 f$3 h h$1 h$2 h$3")
	checkNames(t, def("f$1", "0")+three("f"), "f$1 f f$2 f$3 f$4")
	checkNames(t, three("f")+def("f$1", "0"), "f f$2 f$3 f$4 f$1")
	checkNames(t, def("f$3", "0")+three("f")+def("f$2", "0"), "f$3 f f$1 f$4 f$5 f$2")
	checkNames(t, three("f")+def("f$4", "0")+def("f$5", "0"), "f f$1 f$2 f$3 f$4 f$5")
	checkNames(t, three("f")+def("f$1", "0")+def("f$2", "0")+def("f$4", "0"), "f f$3 f$5 f$6 f$1 f$2 f$4")
	// what is called otherwise, be it by little, passes nothing over; nor do locals, constructors and data types
	checkNames(t, three("f")+def("f$01", "0")+def("f$", "0")+def("F$1", "0")+def("f$1 ", "0")+def("f $1", "0")+def("f$+1", "0")+def("$1", "0"), "f f$1 f$2 f$3 f$01 f$ F$1 f$1  f $1 f$+1 $1")
	checkNames(t, `(data M.T () ("f$1"))`+def("f", `(app (lam "f$1" Int (op + "f$1" (case (con "f$1") (con "f$1" () 1)))) 2)`), "f f$1")
	// those that are passed over have functions of their own
	checkNames(t, three("f")+three("f$1")+three("f$1$2"), "f f$2 f$3 f$4 f$1 f$1$1 f$1$3 f$1$4 f$1$2 f$1$2$1 f$1$2$2 f$1$2$3")
	// far on
	checkNames(t, numbers(100, def("f$@", "0"))+three("f"), strings.TrimSpace(numbers(100, "f$@ "))+" f f$101 f$102 f$103")
	checkNames(t, three("f")+numbers(12, def("f$@", "0")), "f f$13 f$14 f$15 "+strings.TrimSpace(numbers(12, "f$@ ")))
	// calls go to the right ones
	checkLifted(t, fun("f", `(lam "x" Int (app (lam "y" Int (app (global "f$1") (app (lam "z" Int "x") "y"))) 1))`)+fun("f$1", `(lam "x" Int "x")`),
		fun("f", `(lam "x" Int (app (app (global "f$2") "x") 1))`)+`(def "f$2" () `+arrows(2, "Int")+` (lam "x" Int (lam "y" Int (app (global "f$1") (app (app (global "f$3") "x") "y")))))`+`(def "f$3" () `+arrows(2, "Int")+` (lam "x" Int (lam "z" Int "x")))`+fun("f$1", `(lam "x" Int "x")`))
	// names of all signs
	for _, name := range []string{"M.f", "a b", "$", "$$", "f$1", `\"`, "~", "(", "f{Int,(List Int)}"} {
		checkNames(t, def(strings.NewReplacer(`\`, `\\`, `"`, `\"`).Replace(name), `(app (lam "x" Int 1) 1)`), name+" "+name+"$1")
	}
}

// TestTypes: the types of what is given and of what functions become, where no Bind tells them: by each kind of expression, at data types of the program's own and at built-in ones.
func TestTypes(t *testing.T) {
	const data = `(data M.T (a b) ("M.A") ("M.B" (b -> a) (M.T b a)) ("M.C" a Int)) (data M.E () ("M.R") ("M.G" M.E (List M.E)))`
	const more = `(def "any" () (M.T Int Bool) (con "M.A" Int Bool)) (def "mk" () (Int -> (Bool -> (M.T Int Bool))) (lam "i" Int (lam "j" Bool (con "M.A" Int Bool))))` + g
	// functions that answer something of each kind: what is given stands ahead
	for _, x := range []struct{ lam, typ, given string }{
		{`(lam "x" Int "x")`, "(Int -> Int)", ""},
		{`(lam "x" Int 1)`, "(Int -> Int)", ""},
		{`(lam "x" Int (global "any"))`, "(Int -> (M.T Int Bool))", ""},
		{`(lam "x" Int (global "mk"))`, "(Int -> (Int -> (Bool -> (M.T Int Bool))))", ""},
		{`(lam "x" Int (app (global "mk") "x"))`, "(Int -> (Bool -> (M.T Int Bool)))", ""},
		{`(lam "x" Int (app (app (global "mk") "x") (con "True")))`, "(Int -> (M.T Int Bool))", ""},
		{`(lam "x" Int (con "Nil" Bool))`, "(Int -> (List Bool))", ""},
		{`(lam "x" Int (con "Cons" (Int -> Bool)))`, "(Int -> ((Int -> Bool) -> ((List (Int -> Bool)) -> (List (Int -> Bool)))))", ""},
		{`(lam "x" Int (app (con "Triple" Int Bool M.E) "x"))`, "(Int -> (Bool -> (M.E -> (Triple Int Bool M.E))))", ""},
		{`(lam "x" Int (con "M.B" M.E (List Int)))`, "(Int -> (((List Int) -> M.E) -> ((M.T (List Int) M.E) -> (M.T M.E (List Int)))))", ""},
		{`(lam "x" Int (app (app (con "M.C" (Pair Int Int) Unit) (fail 2 (Pair Int Int))) "x"))`, "(Int -> (M.T (Pair Int Int) Unit))", ""},
		{`(lam "x" Int (op + "x" 1))`, "(Int -> Int)", ""},
		{`(lam "x" Int (op / "x" 1))`, "(Int -> Int)", ""},
		{`(lam "x" Int (op % "x" 1))`, "(Int -> Int)", ""},
		{`(lam "x" Int (op - "x" 1))`, "(Int -> Int)", ""},
		{`(lam "x" Int (op * "x" 1))`, "(Int -> Int)", ""},
		{`(lam "x" Int (op == "x" 1))`, "(Int -> Bool)", ""},
		{`(lam "x" Int (op /= "x" 1))`, "(Int -> Bool)", ""},
		{`(lam "x" Int (op < "x" 1))`, "(Int -> Bool)", ""},
		{`(lam "x" Int (op <= "x" 1))`, "(Int -> Bool)", ""},
		{`(lam "x" Int (op > "x" 1))`, "(Int -> Bool)", ""},
		{`(lam "x" Int (op >= "x" 1))`, "(Int -> Bool)", ""},
		{`(lam "x" Int (seq "x" (con "M.R")))`, "(Int -> M.E)", ""},
		{`(lam "x" Int (fail 3 ((List M.E) -> Unit)))`, "(Int -> ((List M.E) -> Unit))", ""},
		{`(lam "x" (List (M.T Int Int)) (lam "y" Bool (lam "w" M.E "x")))`, "((List (M.T Int Int)) -> (Bool -> (M.E -> (List (M.T Int Int)))))", ""},
		{`(lam "x" Int (let (("n" (List Int) (con "Nil" Int))) "n"))`, "(Int -> (List Int))", ""},
		{`(lam "x" Int (case "x" (int 1 (con "False")) (else (fail 1 Bool))))`, "(Int -> Bool)", ""},
		{`(lam "x" Int "d")`, "(Bool -> (Int -> Bool))", `"d"`},
		{`(lam "x" Int "k")`, "((Bool -> Int) -> (Int -> (Bool -> Int)))", `"k"`},
		{`(lam "x" Int (app "k" "d"))`, "(Bool -> ((Bool -> Int) -> (Int -> Int)))", `"d" "k"`},
	} {
		call, lam := `(global "f$1")`, x.lam
		given, types := strings.Fields(x.given), map[string]string{`"d"`: "Bool", `"k"`: "(Bool -> Int)"}
		for _, name := range given {
			call = `(app ` + call + ` ` + name + `)`
		}
		for _, name := range slices.Backward(given) {
			lam = `(lam ` + name + ` ` + types[name] + ` ` + lam + `)`
		}
		want := data + `(def "f" () (Bool -> ((Bool -> Int) -> Int)) (lam "d" Bool (lam "k" (Bool -> Int) (seq ` + call + ` 1)))) (def "f$1" () ` + x.typ + ` ` + lam + `)` + more
		checkLifted(t, data+`(def "f" () (Bool -> ((Bool -> Int) -> Int)) (lam "d" Bool (lam "k" (Bool -> Int) (seq `+x.lam+` 1))))`+more, want)
	}
	// alternatives' locals, of what is looked at in each way
	for _, x := range []struct{ seen, con, vars, types string }{
		{`(con "Nil" (Int -> Bool))`, "Cons", `"u" "v"`, "(Int -> Bool),(List (Int -> Bool))"},
		{`(app (app (con "Pair" Int (List Int)) 1) (con "Nil" Int))`, "Pair", `"u" "v"`, "Int,(List Int)"},
		{`(fail 1 (Triple M.E Int (M.T Int Int)))`, "Triple", `"u" "v" "w"`, "M.E,Int,(M.T Int Int)"},
		{`(global "any")`, "M.B", `"u" "v"`, "(Bool -> Int),(M.T Bool Int)"},
		{`(global "any")`, "M.C", `"u" "v"`, "Int,Int"},
		{`(con "M.R")`, "M.G", `"u" "v"`, "M.E,(List M.E)"},
		{`(app (app (global "mk") 1) (con "True"))`, "M.B", `"u" "v"`, "(Bool -> Int),(M.T Bool Int)"},
		{`(let (("s" (M.T Bool M.E) "s")) "s")`, "M.B", `"u" "v"`, "(M.E -> Bool),(M.T M.E Bool)"},
		{`(seq 1 (con "M.A" (List Int) Unit))`, "M.C", `"u" "v"`, "(List Int),Int"},
		{`(case 1 (int 1 (con "M.A" (List Int) Unit)) (else (fail 1 (M.T (List Int) Unit))))`, "M.B", `"u" "v"`, "(Unit -> (List Int)),(M.T Unit (List Int))"},
		{`(case (con "M.A" Int (Pair Int Bool)) (con "M.B" ("p" "q") (case "q" (con "M.C" ("r" "s") "r"))))`, "Pair", `"u" "v"`, "Int,Bool"},
	} {
		types := strings.Split(x.types, ",")
		vars := strings.Fields(x.vars)
		call, lam, typ := `(global "f$1")`, `(lam "x" Int `+seqs(vars, `"x"`)+`)`, "(Int -> Int)"
		for _, name := range vars {
			call = `(app ` + call + ` ` + name + `)`
		}
		for i, name := range slices.Backward(vars) {
			lam, typ = `(lam `+name+` `+types[i]+` `+lam+`)`, `(`+types[i]+` -> `+typ+`)`
		}
		text := func(body string) string {
			return data + def("f", `(case `+x.seen+` (con "`+x.con+`" (`+x.vars+`) (app `+body+` 1)))`)
		}
		checkLifted(t, text(`(lam "x" Int `+seqs(vars, `"x"`)+`)`)+more, text(call)+`(def "f$1" () `+typ+` `+lam+`)`+more)
	}
	// what is looked at has inner functions itself: its type is that which it had
	checkLifted(t, def("f", `(case (app (lam "x" Int (app (app (con "Pair" Int (Int -> Int)) "x") (lam "y" Int "x"))) 1) (con "Pair" ("a" "b") (app (lam "z" Int (app "b" "a")) 2)))`),
		def("f", `(case (app (global "f$1") 1) (con "Pair" ("a" "b") (app (app (app (global "f$3") "a") "b") 2)))`)+
			`(def "f$1" () (Int -> (Pair Int (Int -> Int))) (lam "x" Int (app (app (con "Pair" Int (Int -> Int)) "x") (app (global "f$2") "x"))))
		(def "f$2" () (Int -> (Int -> Int)) (lam "x" Int (lam "y" Int "x")))
		(def "f$3" () (Int -> ((Int -> Int) -> (Int -> Int))) (lam "a" Int (lam "b" (Int -> Int) (lam "z" Int (app "b" "a")))))`)
	checkLifted(t, def("f", `(case (let (("h" (Int -> (List Bool)) (lam "x" Int (con "Nil" Bool)))) (app "h" 1)) (con "Cons" ("a" "b") (app (lam "z" Int (seq "b" (seq "a" "z"))) 2)))`),
		def("f", `(case (app (global "f$1") 1) (con "Cons" ("a" "b") (app (app (app (global "f$2") "a") "b") 2)))`)+`(def "f$1" () (Int -> (List Bool)) (lam "x" Int (con "Nil" Bool)))
		(def "f$2" () (Bool -> ((List Bool) -> (Int -> Int))) (lam "a" Bool (lam "b" (List Bool) (lam "z" Int (seq "b" (seq "a" "z"))))))`)
	// functions that answer functions, themselves inner ones
	checkLifted(t, `(def "f" () Bool (app (app (app (lam "x" Int (seq 1 (lam "y" Bool (case "x" (int 0 (lam "z" Int "y")) (else (fail 1 (Int -> Bool))))))) 1) (con "True")) 2))`,
		`(def "f" () Bool (app (app (app (global "f$1") 1) (con "True")) 2))
		(def "f$1" () (Int -> (Bool -> (Int -> Bool))) (lam "x" Int (seq 1 (app (global "f$2") "x"))))
		(def "f$2" () (Int -> (Bool -> (Int -> Bool))) (lam "x" Int (lam "y" Bool (case "x" (int 0 (app (global "f$3") "y")) (else (fail 1 (Int -> Bool)))))))
		(def "f$3" () (Bool -> (Int -> Bool)) (lam "y" Bool (lam "z" Int "y")))`)
}

// seqs writes names that are worked out one by one, ahead of something.
func seqs(names []string, last string) string {
	for _, name := range slices.Backward(names) {
		last = `(seq ` + name + ` ` + last + `)`
	}
	return last
}

// TestKept: data types and local names stay as they are, whatever else is called so; definitions that have no inner function too.
func TestKept(t *testing.T) {
	const datas = `(data M.T (a b) ("M.A") ("M.B" (b -> a) (M.T b a))) (data M.E () ("M.R") ("M.G" Int)) (data A (z) ("only" (A (A z))))`
	checkLifted(t, datas, datas)
	checkLifted(t, datas+def("a", `(app (lam "f" Int (let (("g" Int "f") ("a$1" (Int -> Int) (lam "a" Int (op + "g" (global "a"))))) (app "a$1" "f"))) 1)`)+g,
		datas+def("a", `(app (global "a$1") 1)`)+fun("a$1", `(lam "f" Int (let (("g" Int "f")) (app (app (global "a$2") "g") "f")))`)+`(def "a$2" () `+arrows(2, "Int")+` (lam "g" Int (lam "a" Int (op + "g" (global "a")))))`+g)
}
