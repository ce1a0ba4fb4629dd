package elab_test

import "testing"

// TestNothing: P9.2: no texts, and modules with nothing in them.
func TestNothing(t *testing.T) {
	checkTexts(t, nil, "")
	checkTexts(t, []string{}, "")
	checkTexts(t, []string{"module M;"}, "")
	checkTexts(t, []string{"module M; import N;", "module N;", "{- -} module O; -- x"}, "")
}

// TestDatas: P9.2: the data types of the modules, in their order, by the names that scope.Bind gives.
func TestDatas(t *testing.T) {
	check(t, "data B = C; data A x y = A y [B] | D (x -> Int, ()) | E;", `(data M.B () ("M.C")) (data M.A (x y) ("M.A" y (List M.B)) ("M.D" (Pair (x -> Int) Unit)) ("M.E"))`)
	check(t, "data List = Nil | Cons; data Unit a = Unit a; data Pair = Triple Bool; data J = Int Int;", `(data M.List () ("M.Nil") ("M.Cons")) (data M.Unit (a) ("M.Unit" a)) (data M.Pair () ("M.Triple" Bool)) (data M.J () ("M.Int" Int))`)
	checkTexts(t, []string{"module A; import B; data T = T B.T; f (T x) = x;", "module B; data T = T | U; g T = U;"}, `
		(data B.T () ("B.T") ("B.U"))
		(data A.T () ("A.T" B.T))
		(def "B.g" () (B.T -> B.T) (lam "x" B.T (case "x" (con "B.T" () (con "B.U")) (else (fail 2 B.T)))))
		(def "A.f" () (A.T -> B.T) (lam "x" A.T (case "x" (con "A.T" ("y") "y"))))`)
}

// TestModules: P9.2: several modules, in the order in which they come, some of which give the same names.
func TestModules(t *testing.T) {
	a, b := "module A; import B; x = B.x + 1; y x = x;", "module B; x = 7; y = x;"
	const want = `(def "B.x" () Int 7) (def "B.y" () Int (global "B.x")) (def "A.x" () Int (op + (global "B.x") 1)) (def "A.y" (a) (a -> a) (lam "x" a "x"))`
	checkTexts(t, []string{a, b}, want)
	checkTexts(t, []string{b, a}, want)
	checkTexts(t, []string{"module A; f = 1;", "module B; f = 2;", "module C; import A (); import B; f = B.f; g = f;"},
		`(def "A.f" () Int 1) (def "B.f" () Int 2) (def "C.f" () Int (global "B.f")) (def "C.g" () Int (global "C.f"))`)
	checkTexts(t, []string{"module L; infixr 5 ++; (++) [] l = l; (++) (x : t) l = x : (t ++ l);", "module M; import L; m = [1] ++ [2] ++ [];"}, `
		(def "L.++" (a) ((List a) -> ((List a) -> (List a))) (lam "p" (List a) (lam "q" (List a)
			(case "p" (con "Nil" () "q") (con "Cons" ("x" "t") (app (app (con "Cons" a) "x") (app (app (global "L.++" a) "t") "q")))))))
		(def "M.m" () (List Int) (app (app (global "L.++" Int) (app (app (con "Cons" Int) 1) (con "Nil" Int)))
			(app (app (global "L.++" Int) (app (app (con "Cons" Int) 2) (con "Nil" Int))) (con "Nil" Int))))`)
}

// TestDefs: P9.2: the definitions in the order of their first clauses, whichever needs which; with and without parameters.
func TestDefs(t *testing.T) {
	check(t, "c = b; a x = x; b = a 1;", `(def "M.c" () Int (global "M.b")) (def "M.a" (a) (a -> a) (lam "x" a "x")) (def "M.b" () Int (app (global "M.a" Int) 1))`)
	check(t, "f x y z = (z, x);", `(def "M.f" (a b c) (a -> (b -> (c -> (Pair c a)))) (lam "x" a (lam "y" b (lam "z" c (app (app (con "Pair" c a) "z") "x")))))`)
	check(t, "f :: z -> a -> [z]; f x y = [x];", `(def "M.f" (a b) (a -> (b -> (List a))) (lam "x" a (lam "y" b (app (app (con "Cons" a) "x") (con "Nil" a)))))`)
	check(t, "f :: Int -> Int; f x = x; g = f; g' :: b -> b; g' x = x;", `(def "M.f" () (Int -> Int) (lam "x" Int "x")) (def "M.g" () (Int -> Int) (global "M.f")) (def "M.g'" (a) (a -> a) (lam "x" a "x"))`)
}

// TestGroups: what is needed within a group has the one type that it has there; a parameter that another one of the group has, but not the definition itself, is Unit in it.
func TestGroups(t *testing.T) {
	check(t, "a = b; b = a;", `(def "M.a" (a) a (global "M.b" a)) (def "M.b" (a) a (global "M.a" a))`)
	check(t, "even n = if n == 0 then True else odd (n - 1); odd n = if n == 0 then False else even (n - 1);", `
		(def "M.even" () (Int -> Bool) (lam "n" Int (case (op == "n" 0) (con "False" () (app (global "M.odd") (op - "n" 1))) (con "True" () (con "True")))))
		(def "M.odd" () (Int -> Bool) (lam "n" Int (case (op == "n" 0) (con "False" () (app (global "M.even") (op - "n" 1))) (con "True" () (con "False")))))`)
	// within the group g is used at f's own type, though its type is as general as may be
	check(t, "f x = seq (g stop) x; g z = f z;", `
		(def "M.f" (a) (a -> a) (lam "x" a (seq (app (global "M.g" a) (fail 1 a)) "x")))
		(def "M.g" (a) (a -> a) (lam "z" a (app (global "M.f" a) "z")))`)
	// behind it, it is free
	check(t, "f x = seq (g stop) x; g z = z;", `
		(def "M.f" (a) (a -> a) (lam "x" a (seq (app (global "M.g" Unit) (fail 1 Unit)) "x")))
		(def "M.g" (a) (a -> a) (lam "z" a "z"))`)
	check(t, "f x = seq (g x) 1; g x = seq (f x) (g x);", `
		(def "M.f" (a) (a -> Int) (lam "x" a (seq (app (global "M.g" a Unit) "x") 1)))
		(def "M.g" (a b) (a -> b) (lam "x" a (seq (app (global "M.f" a) "x") (app (global "M.g" a b) "x"))))`)
	// the order of the parameters is each one's own
	check(t, "f x y = g y x; g y x = f x y;", `
		(def "M.f" (a b c) (a -> (b -> c)) (lam "x" a (lam "y" b (app (app (global "M.g" b a c) "y") "x"))))
		(def "M.g" (a b c) (a -> (b -> c)) (lam "y" a (lam "x" b (app (app (global "M.f" b a c) "x") "y"))))`)
	// a signature binds the whole group
	check(t, "f x = g x; g :: Int -> Int; g y = f y;", `
		(def "M.f" () (Int -> Int) (lam "x" Int (app (global "M.g") "x")))
		(def "M.g" () (Int -> Int) (lam "y" Int (app (global "M.f") "y")))`)
	check(t, "f x = seq (g 1) x; g :: b -> b; g y = y; h = f;", `
		(def "M.f" (a) (a -> a) (lam "x" a (seq (app (global "M.g" Int) 1) "x")))
		(def "M.g" (a) (a -> a) (lam "y" a "y"))
		(def "M.h" (a) (a -> a) (global "M.f" a))`)
	// one that needs itself
	check(t, "f x = f [];", `(def "M.f" (a b) ((List a) -> b) (lam "x" (List a) (app (global "M.f" a b) (con "Nil" a))))`)
	check(t, "f x = let {g = f} in x;", `(def "M.f" (a) (a -> a) (lam "x" a (let (("g" (a -> a) (global "M.f" a))) "x")))`)
}

// TestLeftFree: a type variable that is left within a definition stands for Unit, wherever it stands.
func TestLeftFree(t *testing.T) {
	for _, x := range []struct{ decls, params, is, body string }{
		{"f = let {g x = x} in 1;", "", "Int", `(let (("g" (Unit -> Unit) (lam "x" Unit "x"))) 1)`},
		{"f = (\\_ -> 1) [];", "", "Int", `(app (lam "x" (List Unit) 1) (con "Nil" Unit))`},
		{"f = (\\_ -> 1) ([], stop);", "", "Int", `(app (lam "x" (Pair (List Unit) Unit) 1) (app (app (con "Pair" (List Unit) Unit) (con "Nil" Unit)) (fail 1 Unit)))`},
		{"f x = (\\_ -> 1) [x, stop];", "a", "(a -> Int)", `(lam "x" a (app (lam "y" (List a) 1) (app (app (con "Cons" a) "x") (app (app (con "Cons" a) (fail 1 a)) (con "Nil" a)))))`},
		{"f = case (\\x y -> x) of {_ -> True};", "", "Bool", `(let (("s" (Unit -> (Unit -> Unit)) (lam "x" Unit (lam "y" Unit "x")))) (con "True"))`},
		{"f = let {g [] = 1; g (x : _) = 2} in g [];", "", "Int", `(let (("g" ((List Unit) -> Int) (lam "l" (List Unit) (case "l" (con "Nil" () 1) (con "Cons" ("x" "y") 2))))) (app "g" (con "Nil" Unit)))`},
		{"f = case stop of {(x, [y]) -> 1};", "", "Int", `(let (("s" (Pair Unit (List Unit)) (fail 1 (Pair Unit (List Unit)))))
			(case "s" (con "Pair" ("x" "l") (case "l" (con "Cons" ("y" "m") (case "m" (con "Nil" () 1) (else (fail 2 Int)))) (else (fail 2 Int))))))`},
	} {
		checkBody(t, x.decls, x.params, x.is, x.body)
	}
}
