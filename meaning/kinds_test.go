package meaning_test

import "testing"

// TestExamples: the chapter's, with their steps.
func TestExamples(t *testing.T) {
	for _, x := range []struct{ text, want string }{
		{`(def "m" () Int 7)`, "done 3: 7"},
		{`(def "m" () Int (op + 1 2))`, "done 5: 3"},
		{`(def "m" () Int (let (("x" Int "x")) "x"))`, "loop 4:"},
		// m, two calls, Cons, telling it; 1, telling it; stop
		{`(def "m" () (List Int) (app (app (con "Cons" Int) 1) (fail 1 (List Int))))`, "stop 8: Cons 1"},
		// m, the call, the lambda, two calls, Pair, telling it; x, the product, 2, 3, telling it; x, telling it
		{`(def "m" () (Pair Int Int) (app (lam "x" Int (app (app (con "Pair" Int Int) "x") "x")) (op * 2 3)))`, "done 14: Pair 6 6"},
		{`(def "m" () Int (case 5 (int 4 1)))`, "match 3:"},
		{`(def "m" () Int (op / 1 0))`, "zero 4:"},
		{`(def "m" () Int (seq (fail 1 Int) 1))`, "stop 3:"},
	} {
		checkAll(t, x.text, x.want)
	}
	// m, the let, x, two calls, Cons, telling it; 1 and telling it; x, telling Cons; from now on each is there, and telling is all
	ring := `(def "m" () (List Int) (let (("x" (List Int) (app (app (con "Cons" Int) 1) "x"))) "x"))`
	check(t, ring, nil, 20, "fuel 20: Cons 1 Cons 1 Cons 1 Cons 1 Cons 1 Cons 1")
	check(t, `(def "m" () Int 7)`, nil, 2, "fuel 2:")
	first := `(def "m" () ((List Int) -> Int) (lam "l" (List Int) (case "l" (con "Nil" () 0) (con "Cons" ("a" "b") "a"))))`
	// m, the lambda; the case, l, a, telling it
	check(t, first, []int{9, 8}, 50, "done 6: 9")
	check(t, first, nil, 50, "done 6: 0")
}

// TestKinds: P10.1: what each Kind does, and how many steps it takes. (One is that of m, and one that of telling an item.)
func TestKinds(t *testing.T) {
	for _, x := range []struct{ text, want string }{
		// ExprInt, ExprCon without fields
		{`(def "m" () Int -4611686018427387904)`, "done 3: -4611686018427387904"},
		{`(def "m" () Int 4611686018427387903)`, "done 3: 4611686018427387903"},
		{`(def "m" () Bool (con "True"))`, "done 3: True"},
		{`(def "m" () Unit (con "Unit"))`, "done 3: Unit"},
		{`(def "m" () (List (List Int)) (con "Nil" (List Int)))`, "done 3: Nil"},
		{`(data M.T () ("a b (") ("M.T")) (def "m" () M.T (con "a b ("))`, "done 3: a b ("},
		// ExprCon with fields, ExprApp of it
		{`(data M.T () ("M.T" Int)) (def "m" () M.T (app (con "M.T") 4))`, "done 6: M.T 4"},
		{`(def "m" () (Triple Int Int Bool) (app (app (app (con "Triple" Int Int Bool) 1) 2) (con "False")))`, "done 12: Triple 1 2 False"},
		// ExprGlobal: the first time its Body is worked out
		{`(def "m" () Int (global "n")) (def "n" () Int 3)`, "done 4: 3"},
		{`(def "m" () Int (op + (global "n") (global "n"))) (def "n" () Int 3)`, "done 6: 6"},
		// ExprVar, ExprLam, ExprApp
		{`(def "m" () Int (app (lam "x" Int "x") 3))`, "done 6: 3"},
		{`(def "m" () Int (app (lam "x" Int 4) 3))`, "done 5: 4"},
		{`(def "m" () Int (app (app (lam "x" Int (lam "y" Int (op - "x" "y"))) 10) 4))`, "done 11: 6"},
		{`(def "m" () Int (app (app (lam "f" (Int -> Int) "f") (lam "x" Int "x")) 5))`, "done 9: 5"},
		// ExprLet
		{`(def "m" () Int (let (("x" Int (op + 1 2))) 3))`, "done 4: 3"},
		{`(def "m" () Int (let (("x" Int (op + 1 2))) "x"))`, "done 7: 3"},
		{`(def "m" () Int (let (("x" Int "y") ("y" Int 8)) "x"))`, "done 6: 8"},
		// ExprCase
		{`(def "m" () Int (case 5 (int 4 1) (int 5 2) (else 3)))`, "done 5: 2"},
		{`(def "m" () Int (case 6 (int 4 1) (int 5 2) (else 3)))`, "done 5: 3"},
		{`(def "m" () Int (case 6 (else 3)))`, "done 5: 3"},
		{`(def "m" () Int (case -4611686018427387904 (int 4611686018427387903 1) (int -4611686018427387904 2)))`, "done 5: 2"},
		{`(def "m" () Int (case (con "True") (con "False" () 1) (con "True" () 2)))`, "done 5: 2"},
		{`(def "m" () Int (case (con "True") (con "False" () 1) (else 2)))`, "done 5: 2"},
		{`(def "m" () Int (case (con "True") (con "False" () 1)))`, "match 3:"},
		{`(def "m" () Int (case (con "False") (con "False" () 1)))`, "done 5: 1"},
		{`(def "m" () Int (case (app (app (con "Pair" Int Int) 8) 5) (con "Pair" ("x" "y") (op - "x" "y"))))`, "done 11: 3"},
		{`(def "m" () Int (case (app (app (con "Pair" Int Int) 8) 5) (else 1)))`, "done 7: 1"},
		{`(def "m" () Int (case (app (app (con "Cons" Int) (fail 1 Int)) (fail 3 (List Int))) (con "Cons" ("x" "y") 1)))`, "done 7: 1"},
		{`(def "m" () Int (case (fail 4 Int) (else 1)))`, "loop 3:"},
		// ExprOp: the first operand, then the second one
		{`(def "m" () Int (op * 6 7))`, "done 5: 42"},
		{`(def "m" () Bool (op < 6 7))`, "done 5: True"},
		{`(def "m" () Int (op * (fail 1 Int) (fail 2 Int)))`, "stop 3:"},
		{`(def "m" () Int (op * 0 (fail 2 Int)))`, "match 4:"},
		{`(def "m" () Int (op / (fail 1 Int) 0))`, "stop 3:"},
		{`(def "m" () Int (op / 5 (op - 2 2)))`, "zero 6:"},
		{`(def "m" () Int (op % 5 (op - 2 2)))`, "zero 6:"},
		{`(def "m" () Int (op % 0 0))`, "zero 4:"},
		// ExprSeq
		{`(def "m" () Int (seq 1 2))`, "done 5: 2"},
		{`(def "m" () Int (seq (op + 1 1) 2))`, "done 7: 2"},
		{`(def "m" () Int (seq (lam "x" Int (fail 1 Int)) 2))`, "done 5: 2"},
		{`(def "m" () Int (seq (app (con "Cons" Int) (fail 1 Int)) 2))`, "done 6: 2"},
		{`(def "m" () Int (seq (app (app (con "Cons" Int) (fail 1 Int)) (fail 2 (List Int))) 2))`, "done 7: 2"},
		{`(def "m" () Int (seq 1 (fail 3 Int)))`, "zero 4:"},
		{`(def "m" () Int (seq (fail 4 Int) (fail 3 Int)))`, "loop 3:"},
		// ExprHard
		{`(def "m" () Int (hard "x" Int (op + 1 1) (op * "x" "x")))`, "done 9: 4"},
		{`(def "m" () Int (hard "x" Int (op + 1 1) 5))`, "done 7: 5"},
		{`(def "m" () Int (hard "x" Int (fail 2 Int) 5))`, "match 3:"},
		{`(def "m" () Int (hard "x" Int 4 (fail 2 Int)))`, "match 4:"},
		{`(def "m" () Int (hard "x" (List Int) (app (app (con "Cons" Int) 1) (fail 1 (List Int))) (case "x" (con "Cons" ("a" "b") "a"))))`, "done 10: 1"},
		{`(def "m" () Int (hard "f" (Int -> Int) (lam "x" Int (fail 1 Int)) 5))`, "done 5: 5"},
		// ExprFail
		{`(def "m" () Int (fail 1 Int))`, "stop 2:"},
		{`(def "m" () Int (fail 2 Int))`, "match 2:"},
		{`(def "m" () Int (fail 3 Int))`, "zero 2:"},
		{`(def "m" () Int (fail 4 Int))`, "loop 2:"},
		{`(def "m" () Int (app (fail 2 (Int -> Int)) (fail 1 Int)))`, "match 3:"},
	} {
		checkAll(t, x.text, x.want)
	}
}

// TestSight: P10.1: what a name stands for is what was in sight where its expression stands, not where it is worked out.
func TestSight(t *testing.T) {
	for _, x := range []struct{ text, want string }{
		// one lambda at several x
		{`(def "m" () (Pair Int Int) (let (("f" (Int -> (Int -> Int)) (lam "x" Int (lam "y" Int (op - "x" "y")))) ("g" (Int -> Int) (app "f" 10)) ("h" (Int -> Int) (app "f" 20)))
			(app (app (con "Pair" Int Int) (app "g" 1)) (app "h" (app "g" 2)))))`, "done 34: Pair 9 12"},
		// each turn of a call has names of its own, though the definition is one
		{`(def "m" () Int (app (global "f") 3)) (def "f" () (Int -> Int) (lam "n" Int (case "n" (int 0 0) (else (let (("k" Int (app (global "f") (op - "n" 1)))) (op + (op * 10 "k") "n"))))))`, "done 48: 123"},
		// a name of a hard within names of others
		{`(def "m" () Int (app (lam "x" Int (hard "y" Int (op + "x" 1) (let (("z" Int (op + "y" "x"))) (case (con "True") (con "True" () (op * "z" "y")))))) 5))`, "done 18: 66"},
		// names of alternatives, some within others
		{`(def "m" () Int (case (app (app (con "Pair" (Pair Int Int) Int) (app (app (con "Pair" Int Int) 1) 2)) 3) (con "Pair" ("p" "c") (case "p" (con "Pair" ("a" "b") (op + "a" (op + (op * 10 "b") (op * 100 "c"))))))))`, "done 23: 321"},
		// the same names in two definitions
		{`(def "m" () Int (app (lam "x" Int (op + "x" (app (global "g") 2))) 1)) (def "g" () (Int -> Int) (lam "y" Int (let (("x" Int 40)) (op + "x" "y"))))`, "done 16: 43"},
	} {
		checkAll(t, x.text, x.want)
	}
}

// TestOnce: what is worked out once is used twice, and takes its steps once: as an argument, a let's Bind, a field, a definition, a hard; what stands twice is worked out twice.
func TestOnce(t *testing.T) {
	const pair = `(app (app (con "Pair" Int Int) `
	for _, x := range []struct{ text, want string }{
		{`(def "m" () Int (app (lam "x" Int (op + "x" "x")) (op * 2 3)))`, "done 10: 12"},
		{`(def "m" () Int (op + (op * 2 3) (op * 2 3)))`, "done 9: 12"},
		{`(def "m" () Int (let (("x" Int (op * 2 3))) (op + "x" "x")))`, "done 9: 12"},
		{`(def "m" () (Pair Int Int) (let (("x" Int (op * 2 3))) ` + pair + `"x") "x")))`, "done 13: Pair 6 6"},
		{`(def "m" () Int (case (app (app (con "Pair" Int Int) (op * 2 3)) 1) (con "Pair" ("x" "y") (op + "x" "x"))))`, "done 12: 12"},
		{`(def "m" () Int (let (("p" (Pair Int Int) ` + pair + `(op * 2 3)) 1))) (op + (case "p" (con "Pair" ("a" "b") "a")) (case "p" (con "Pair" ("c" "d") "c")))))`, "done 16: 12"},
		{`(def "m" () (Pair Int Int) ` + pair + `(global "c")) (global "c"))) (def "c" () Int (op + 1 1))`, "done 12: Pair 2 2"},
		{`(def "m" () Int (hard "x" Int (op * 2 3) (op + "x" "x")))`, "done 9: 12"},
		// a definition that is a function by a sum: the sum is done once, the body each time
		{`(def "m" () Int (op + (app (global "f") 1) (app (global "f") 2))) (def "f" () (Int -> Int) (let (("k" Int (op * 2 3))) (lam "x" Int (op + "k" "x"))))`, "done 20: 15"},
		// a value that comes again by a name is the same one, its fields too
		{`(def "m" () (Pair (List Int) (List Int)) (let (("l" (List Int) (app (app (con "Cons" Int) (op * 2 3)) (con "Nil" Int)))) (app (app (con "Pair" (List Int) (List Int)) "l") "l")))`, "done 21: Pair Cons 6 Nil Cons 6 Nil"},
	} {
		checkAll(t, x.text, x.want)
	}
}

// TestTypes: definitions with type parameters, at several types: one cell for all of them.
func TestTypes(t *testing.T) {
	for _, x := range []struct{ text, want string }{
		{`(def "m" () (Pair Int Bool) (app (app (con "Pair" Int Bool) (app (global "id" Int) 1)) (app (global "id" Bool) (con "True")))) (def "id" (a) (a -> a) (lam "x" a "x"))`, "done 16: Pair 1 True"},
		{`(def "m" () (Pair (List Int) (List Bool)) (app (app (con "Pair" (List Int) (List Bool)) (global "n" Int)) (global "n" Bool))) (def "n" (a) (List a) (seq (op + 1 1) (con "Nil" a)))`, "done 14: Pair Nil Nil"},
		{`(def "m" () Int (app (app (global "id" (Int -> Int)) (global "id" Int)) 4)) (def "id" (a) (a -> a) (lam "x" a "x"))`, "done 10: 4"},
		{`(def "m" () Int (app (app (global "k" Int Bool) 4) (fail 1 Bool))) (def "k" (a b) (a -> (b -> a)) (lam "x" a (lam "y" b "x")))`, "done 9: 4"},
		// a definition that needs itself at ever greater types
		{`(data M.N (a) ("M.E" a) ("M.D" (M.N (Pair a a)))) (def "m" () (M.N Int) (app (app (global "f" Int) 2) 1))
			(def "f" (a) (Int -> (a -> (M.N a))) (lam "n" Int (lam "x" a (case "n" (int 0 (app (con "M.E" a) "x")) (else (app (con "M.D" a) (app (app (global "f" (Pair a a)) (op - "n" 1)) (app (app (con "Pair" a a) "x") "x"))))))))`,
			"done 55: M.D M.D M.E Pair Pair 1 1 Pair 1 1"},
	} {
		checkAll(t, x.text, x.want)
	}
}

// TestLacking: constructors with fewer arguments than fields are given on, and filled later, more than once.
func TestLacking(t *testing.T) {
	for _, x := range []struct{ text, want string }{
		{`(def "m" () (Pair (Pair Int Int) (Pair Int Int)) (let (("f" (Int -> (Pair Int Int)) (app (con "Pair" Int Int) (op + 1 1)))) (app (app (con "Pair" (Pair Int Int) (Pair Int Int)) (app "f" 3)) (app "f" 4))))`,
			"done 23: Pair Pair 2 3 Pair 2 4"},
		{`(def "m" () (Triple Int Int Int) (app (app (lam "f" (Int -> (Int -> (Triple Int Int Int))) (app "f" 2)) (app (con "Triple" Int Int Int) 1)) 3))`, "done 15: Triple 1 2 3"},
		{`(def "m" () (List Int) (app (app (app (global "flip" Int) (con "Cons" Int)) (con "Nil" Int)) 5)) (def "flip" (a) ((a -> ((List a) -> (List a))) -> ((List a) -> (a -> (List a)))) (lam "f" (a -> ((List a) -> (List a))) (lam "l" (List a) (lam "x" a (app (app "f" "x") "l")))))`,
			"done 19: Cons 5 Nil"},
		{`(data M.T () ("M.T" Int Int Int Int Int Int Int Int)) (def "m" () (Pair M.T M.T) (app (lam "f" (Int -> (Int -> M.T)) (app (app (con "Pair" M.T M.T) (app (app "f" 7) 8)) (app (app "f" 70) 80))) (app (app (app (app (app (app (con "M.T") 1) 2) 3) 4) 5) 6)))`,
			"done 48: Pair M.T 1 2 3 4 5 6 7 8 M.T 1 2 3 4 5 6 70 80"},
		// each stage is filled in two ways, the longer one first
		{`(def "m" () (Pair (Triple Int Int Int) (Triple Int Int Int)) (let (("f" (Int -> (Int -> (Triple Int Int Int))) (app (con "Triple" Int Int Int) 1)) ("g" (Int -> (Triple Int Int Int)) (app "f" 2)) ("h" (Int -> (Triple Int Int Int)) (app "f" 3)))
			(app (app (con "Pair" (Triple Int Int Int) (Triple Int Int Int)) (app "h" 4)) (app "g" 5))))`, "done 29: Pair Triple 1 3 4 Triple 1 2 5"},
	} {
		checkAll(t, x.text, x.want)
	}
}

// TestRings: lets whose Binds need one another, and what needs itself.
func TestRings(t *testing.T) {
	for _, x := range []struct{ text, want string }{
		{`(def "m" () Int (let (("x" Int (op + "y" 1)) ("y" Int (op + "z" 1)) ("z" Int 5)) "x"))`, "done 11: 7"},
		{`(def "m" () Int (let (("x" Int (op + "y" 1)) ("y" Int (op + "x" 1))) "x"))`, "loop 7:"},
		{`(def "m" () Int (let (("x" Int (op + "x" 1))) 4))`, "done 4: 4"},
		{`(def "m" () Int (op + 1 (global "m")))`, "loop 4:"},
		{`(def "m" () Int (global "m"))`, "loop 2:"},
		{`(def "m" () Int (seq (global "n") 1)) (def "n" () Int (global "k")) (def "k" () Int (global "n"))`, "loop 5:"},
		{`(def "m" () (List Int) (let (("x" (List Int) (app (app (con "Cons" Int) 1) "x"))) (case "x" (con "Cons" ("a" "b") (case "b" (con "Cons" ("c" "d") (app (app (con "Cons" Int) (op + "a" "c")) (con "Nil" Int))))))))`, "done 21: Cons 2 Nil"},
		// a field that needs its own constructor's, which is there
		{`(def "m" () (Pair Int Int) (let (("p" (Pair Int Int) (app (app (con "Pair" Int Int) 3) (case "p" (con "Pair" ("a" "b") "a"))))) "p"))`, "done 13: Pair 3 3"},
		// one that needs itself
		{`(def "m" () (Pair Int Int) (let (("p" (Pair Int Int) (app (app (con "Pair" Int Int) 3) (case "p" (con "Pair" ("a" "b") "b"))))) "p"))`, "loop 12: Pair 3"},
		// even and odd
		{`(def "m" () Bool (let (("e" (Int -> Bool) (lam "x" Int (case "x" (int 0 (con "True")) (else (app "o" (op - "x" 1)))))) ("o" (Int -> Bool) (lam "y" Int (case "y" (int 0 (con "False")) (else (app "e" (op - "y" 1))))))) (app "e" 3)))`, "done 32: False"},
		// a function that is busy no more when it is called
		{`(def "m" () Int (let (("f" (Int -> Int) (lam "x" Int (case "x" (int 0 0) (else (app "f" 0)))))) (app "f" 1)))`, "done 15: 0"},
		{`(def "m" () Int (let (("f" (Int -> Int) (app (lam "g" (Int -> Int) "g") "f"))) (app "f" 1)))`, "loop 8:"},
		// hard: the Value is busy in no cell
		{`(def "m" () Int (let (("x" Int (hard "y" Int (op + "x" 1) "y"))) "x"))`, "loop 6:"},
	} {
		checkAll(t, x.text, x.want)
	}
}
