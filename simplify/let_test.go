package simplify_test

import "testing"

// TestIdle: rule 13: Binds that are not needed.
func TestIdle(t *testing.T) {
	checkExamples(t, []example{
		becomes("Int", `(let (("x" Int (fail 1 Int))) 5)`, `5`),
		becomes("Int", `(let (("x" Int (op + "x" 1))) 5)`, `5`), // it alone speaks of itself
		becomes("Int", `(let (("x" Int (app (global "f") "y")) ("y" Int (app (global "f") "x"))) 5)`, `5`),
		// some are needed: by the body, by one that is needed, by a ring; all others go at one time
		becomes("Int", `(let (("a" Int (app (global "f") "b")) ("x" Int (app (global "f") "a")) ("b" Int (app (global "f") "c")) ("y" Int (op + "x" "z")) ("c" Int (app (global "f") "a")) ("z" Int (op + "y" "b"))) (op + "a" "a"))`,
			`(let (("a" Int (app (global "f") "b")) ("b" Int (app (global "f") "c")) ("c" Int (app (global "f") "a"))) (op + "a" "a"))`),
		// needed within a lambda, an alternative, another let's Value
		stays("(Int -> Int)", `(let (("x" (Int -> Int) (lam "n" Int (app "x" "n"))) ("y" Int (app (global "f") 1))) (lam "m" Int (case "m" (int 1 (let (("z" Int (op + (app "x" "y") "y"))) (app "x" (op + "z" "z")))) (else 2))))`),
		// what is dropped needs nothing any more: the one around is not needed then
		becomes("Int", `(let (("x" Int (app (global "f") 1))) (let (("y" Int (op + "x" "x"))) 5))`, `5`),
		becomes("Int", `(let (("x" Int (app (global "f") 1))) (case (con "True") (con "False" () (op + "x" "x")) (con "True" () 5)))`, `5`),
		becomes("Int", `(let (("x" Int (app (global "f") 1))) (app (fail 1 (Int -> Int)) "x"))`, `(fail 1 Int)`),
		becomes("Int", `(let (("x" Int (app (global "f") 1))) (case (fail 1 Int) (int 1 "x") (else (op + "x" "x"))))`, `(fail 1 Int)`),
		becomes("Int", `(let (("x" Int (app (global "f") 1))) (op + (fail 1 Int) "x"))`, `(fail 1 Int)`),
		becomes("Int", `(let (("x" Int (app (global "f") 1))) (seq (lam "n" Int (op + "x" "n")) 5))`, `5`),
		becomes("Int", `(let (("x" Int (app (global "f") 1))) (seq (fail 1 Int) "x"))`, `(fail 1 Int)`),
		becomes("Int", `(let (("x" Int (app (global "f") 1))) (case 3 (int 2 "x")))`, `(fail 2 Int)`),
		becomes("Int", `(let (("x" Int (app (global "f") 1))) (case (app (app (con "Pair" Int Int) "x") "x") (else 5)))`, `5`),
		// a local that is spoken of twice, but once behind that: then rule 15 fits
		becomes("Int", `(let (("x" Int (app (global "f") 1))) (op + "x" (seq (lam "n" Int "x") 5)))`, `(op + (app (global "f") 1) 5)`),
		// 13 ahead of 14 and 15, once in a round
		becomes("Int", `(let (("a" Int 5) ("b" Int 7) ("c" Int (app (global "f") 1))) (op + "b" "c"))`, `(let (("b" Int 7) ("c" Int (app (global "f") 1))) (op + "b" "c"))`, `(let (("c" Int (app (global "f") 1))) (op + 7 "c"))`, `(op + 7 (app (global "f") 1))`),
	})
}

// TestAtoms: rule 14: atoms of each kind, the first of several, in all places; what is none.
func TestAtoms(t *testing.T) {
	checkExamples(t, []example{
		becomes("Int", `(let (("x" Int 4)) (app (global "f") (op + "x" (app (global "f") "x"))))`, `(app (global "f") (op + 4 (app (global "f") 4)))`),
		becomes("(Pair (List Int) (List Int))", `(let (("x" (List Int) (con "Nil" Int))) (app (app (con "Pair" (List Int) (List Int)) "x") "x"))`, `(app (app (con "Pair" (List Int) (List Int)) (con "Nil" Int)) (con "Nil" Int))`),
		becomes("(List Int)", `(let (("x" (Int -> ((List Int) -> (List Int))) (con "Cons" Int))) (app (app "x" 1) (app (app "x" 2) (con "Nil" Int))))`, `(app (app (con "Cons" Int) 1) (app (app (con "Cons" Int) 2) (con "Nil" Int)))`),
		becomes("Int", `(let (("x" Int (global "five"))) (op + "x" "x"))`, `(op + (global "five") (global "five"))`),
		becomes("Bool", `(let (("h" (Bool -> Bool) (global "self" Bool))) (app "h" (app "h" (con "True"))))`, `(app (global "self" Bool) (app (global "self" Bool) (con "True")))`),
		becomes("(Int -> Int)", `(lam "n" Int (let (("x" Int "n")) (op + "x" (op * "x" "n"))))`, `(lam "n" Int (op + "n" (op * "n" "n")))`),
		// in lambdas, Values and alternatives too; all at one time
		becomes("(Int -> Int)", `(let (("x" Int 4)) (lam "n" Int (case "n" (int 1 "x") (else (let (("y" Int (app (global "f") "x"))) (op + "y" (op + "y" "x")))))))`, `(lam "n" Int (case "n" (int 1 4) (else (let (("y" Int (app (global "f") 4))) (op + "y" (op + "y" 4))))))`),
		becomes("(Int -> Int)", `(let (("x" Int 4)) (lam "n" Int (hard "y" Int (app (global "f") "x") (op + "x" "y"))))`, `(lam "n" Int (hard "y" Int (app (global "f") 4) (op + 4 "y")))`),
		// the first one alone; in the other Values as well
		becomes("Int", `(let (("x" Int (app (global "f") "z")) ("y" Int 1) ("z" Int 2)) (op + (op + "x" "x") (op + "y" "z")))`, `(let (("x" Int (app (global "f") "z")) ("z" Int 2)) (op + (op + "x" "x") (op + 1 "z")))`, `(let (("x" Int (app (global "f") 2))) (op + (op + "x" "x") (op + 1 2)))`, `(let (("x" Int (app (global "f") 2))) (op + (op + "x" "x") 3))`),
		// of an ExprVar: not of a name that this let binds; of one of a let around it
		becomes("Int", `(let (("x" Int "y") ("y" Int 3)) "x")`, `(let (("x" Int 3)) "x")`, `3`),
		stays("Int", `(let (("x" Int "y") ("y" Int "x")) "x")`),
		stays("Int", `(let (("x" Int "x")) "x")`),
		becomes("Int", `(let (("x" Int (app (global "f") 1))) (let (("y" Int "x")) (op + "y" "y")))`, `(let (("x" Int (app (global "f") 1))) (op + "x" "x"))`),
		becomes("Int", `(let (("x" Int (app (global "f") 1))) (let (("y" Int "x")) "y"))`, `(app (global "f") 1)`),
		becomes("Int", `(hard "x" Int (app (global "f") 1) (let (("y" Int "x")) (op + "y" "y")))`, `(hard "x" Int (app (global "f") 1) (op + "x" "x"))`),
		becomes("Int", `(case (global "ones") (con "Cons" ("a" "b") (let (("y" Int "a")) (op + "y" "y"))))`, `(case (global "ones") (con "Cons" ("a" "b") (op + "a" "a")))`),
		// a Value of y speaks of x, which this let binds; behind the round it does so no more
		becomes("Int", `(let (("x" Int (app (global "f") 1)) ("y" Int "x")) (op + "y" (op + "y" "x")))`, `(let (("x" Int (app (global "f") 1)) ("y" Int "x")) (op + "y" (op + "y" "x")))`),
		// not with arguments
		stays("((Int -> Int) -> Int)", `(lam "h" (Int -> Int) (let (("x" Int (app "h" 1))) (op + "x" "x")))`),
		stays("(Pair (List Int) (List Int))", `(let (("x" (List Int) (app (app (con "Cons" Int) 1) (con "Nil" Int)))) (app (app (con "Pair" (List Int) (List Int)) "x") "x"))`),
		stays("Int", `(let (("h" (Int -> Int) (app (global "add") 1))) (app "h" (app "h" 2)))`),
		stays("Int", `(let (("h" (Int -> Int) (lam "n" Int "n"))) (app "h" (app "h" 2)))`),
		stays("Int", `(let (("x" Int (fail 1 Int))) (op + 1 (op + "x" "x")))`),
		// 14 ahead of 15
		becomes("Int", `(let (("x" Int (app (global "f") 1)) ("y" Int 2)) (op + "x" "y"))`, `(let (("x" Int (app (global "f") 1))) (op + "x" 2))`, `(op + (app (global "f") 1) 2)`),
	})
}

// TestSingle: rule 15: names that are spoken of just once; in which places that counts.
func TestSingle(t *testing.T) {
	const v = `(app (global "f") 1)`
	checkExamples(t, []example{
		becomes("Int", `(let (("x" Int `+v+`)) "x")`, v),
		becomes("Int", `(let (("x" Int `+v+`)) (app (global "f") "x"))`, `(app (global "f") `+v+`)`),
		becomes("Int", `(let (("x" (Int -> Int) (case (global "five") (int 5 (global "f"))))) (app "x" 2))`, `(app (case (global "five") (int 5 (global "f"))) 2)`),
		becomes("Int", `(let (("x" Int `+v+`)) (case "x" (int 1 2) (else 3)))`, `(case `+v+` (int 1 2) (else 3))`),
		becomes("Int", `(let (("x" Int `+v+`)) (case (global "five") (int 1 "x") (else 3)))`, `(case (global "five") (int 1 `+v+`) (else 3))`),
		becomes("Int", `(let (("x" Int `+v+`)) (case (global "ones") (con "Cons" ("a" "b") (op + "a" "x"))))`, `(case (global "ones") (con "Cons" ("a" "b") (op + "a" `+v+`)))`),
		becomes("Int", `(let (("x" Int `+v+`)) (seq "x" 2))`, `(seq `+v+` 2)`),
		becomes("Int", `(let (("x" Int `+v+`)) (seq (global "five") "x"))`, `(seq (global "five") `+v+`)`),
		becomes("Int", `(let (("x" Int `+v+`)) (op - (global "five") "x"))`, `(op - (global "five") `+v+`)`),
		becomes("Int", `(let (("x" Int `+v+`)) (hard "y" Int (global "five") (op + "x" "y")))`, `(hard "y" Int (global "five") (op + `+v+` "y"))`),
		becomes("Int", `(let (("x" Int `+v+`)) (let (("y" Int (app (global "f") 2))) (op + "x" (op + "y" "y"))))`, `(let (("y" Int (app (global "f") 2))) (op + `+v+` (op + "y" "y")))`),
		becomes("(List Int)", `(let (("x" Int `+v+`)) (app (app (con "Cons" Int) "x") (con "Nil" Int)))`, `(app (app (con "Cons" Int) `+v+`) (con "Nil" Int))`),
		// twice, though in two alternatives
		stays("Int", `(let (("x" Int `+v+`)) (case (global "five") (int 1 "x") (else "x")))`),
		// within a lambda; one that is applied becomes a let in that round
		stays("(Int -> Int)", `(let (("x" Int `+v+`)) (lam "y" Int "x"))`),
		stays("Int", `(let (("x" Int `+v+`)) (app (global "self" Int) (app (case (global "five") (int 1 (lam "y" Int (op + "x" "y")))) 2)))`),
		becomes("Int", `(let (("x" Int `+v+`)) (app (lam "y" Int (op + "x" (op + "y" "y"))) (global "five")))`, `(let (("y" Int (global "five"))) (op + `+v+` (op + "y" "y")))`, `(op + `+v+` (op + (global "five") (global "five")))`),
		// within a Value: of a let inside, of a hard inside, of this let
		stays("Int", `(let (("x" Int `+v+`)) (let (("y" Int (app (global "f") "x"))) (op + "y" "y")))`),
		stays("Int", `(let (("x" Int `+v+`)) (hard "y" Int "x" (op + "y" "y")))`),
		stays("Int", `(let (("x" Int `+v+`)) (hard "y" Int (app (global "f") "x") (op + "y" "y")))`),
		stays("Int", `(let (("x" Int `+v+`) ("y" Int (app (global "f") "x"))) (op + "y" "y"))`),
		stays("(List Int)", `(let (("x" (List Int) (app (app (con "Cons" Int) 1) "x"))) "x")`), // once in the body, once in its own Value
		becomes("Int", `(let (("x" Int `+v+`)) (app (lam "y" Int (op + "y" "y")) "x"))`, `(let (("x" Int `+v+`)) (let (("y" Int "x")) (op + "y" "y")))`, `(let (("x" Int `+v+`)) (op + "x" "x"))`),
		// the first one alone; its Value may speak of the others
		becomes("Int", `(let (("x" Int (app (global "f") "y")) ("y" Int `+v+`)) (op + "x" "y"))`, `(let (("y" Int `+v+`)) (op + (app (global "f") "y") "y"))`),
		becomes("Int", `(let (("a" Int (app (global "f") 1)) ("b" Int (app (global "f") 2)) ("c" Int (app (global "f") "b"))) (op + (op + "c" "a") "c"))`, `(let (("b" Int (app (global "f") 2)) ("c" Int (app (global "f") "b"))) (op + (op + "c" (app (global "f") 1)) "c"))`),
		becomes("Int", `(let (("x" Int "y") ("y" Int `+v+`)) (op + "x" "y"))`, `(let (("y" Int `+v+`)) (op + "y" "y"))`),
		becomes("Int", `(let (("x" Int "y") ("y" Int `+v+`)) "x")`, `(let (("y" Int `+v+`)) "y")`, v),
		// lets within one another: the inner one first, all in one round
		becomes("Int", `(let (("x" Int `+v+`)) (let (("y" Int (app (global "f") "x"))) (let (("z" Int (app (global "f") "y"))) (app (global "f") "z"))))`, `(app (global "f") (app (global "f") (app (global "f") `+v+`)))`),
	})
}

// TestOnce: what comes of a rule is not looked at again in the round; parts are made simpler ahead of the whole; a hard and a lambda are what they are, but for their parts.
func TestOnce(t *testing.T) {
	checkExamples(t, []example{
		becomes("Int", `(app (lam "x" Int (app (lam "y" Int "y") "x")) 1)`, `(let (("x" Int 1)) (let (("y" Int "x")) "y"))`, `1`),
		becomes("Int", `(case (let (("x" Int (app (global "f") 1))) (seq "x" 3)) (int 3 4))`, `(case (seq (app (global "f") 1) 3) (int 3 4))`),
		becomes("Int", `(case (let (("x" Int (app (global "f") 1))) (case (op + "x" "x") (int 1 (con "True")))) (con "True" () 4))`, `(let (("x" Int (app (global "f") 1))) (case (case (op + "x" "x") (int 1 (con "True"))) (con "True" () 4)))`),
		becomes("Int", `(seq (global "f") (case 1 (int 1 (op + 1 1))))`, `2`),
		becomes("(Int -> Int)", `(lam "x" Int (app (lam "y" Int (op + 1 2)) "x"))`, `(lam "x" Int (let (("y" Int "x")) 3))`, `(lam "x" Int 3)`),
		becomes("Int", `(hard "x" Int (op + 1 2) (op + "x" (op + 1 1)))`, `(hard "x" Int 3 (op + "x" 2))`),
		becomes("Int", `(hard "x" Int (fail 1 Int) 5)`, `(hard "x" Int (fail 1 Int) 5)`),
		becomes("Int", `(hard "x" Int 1 5)`, `(hard "x" Int 1 5)`),
		stays("Int", `(global "five")`),
		stays("(Int -> Int)", `(global "inc")`),
		stays("Int", `(fail 3 Int)`),
		stays("Int", `12`),
	})
}
