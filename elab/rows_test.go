package elab_test

import "testing"

type rowCase struct{ decls, params, is, body string }

func checkBodies(t *testing.T, l []rowCase) {
	t.Helper()
	for _, x := range l {
		checkBody(t, x.decls, x.params, x.is, x.body)
	}
}

// TestClauses: P9.4: clauses with no, one and several patterns, of definitions, of locals of a let and of lambdas.
func TestClauses(t *testing.T) {
	checkBodies(t, []rowCase{
		{"f = 1; f = 2;", "", "Int", `1`},
		{"f x = x; f y = 2;", "", "(Int -> Int)", `(lam "x" Int "x")`},
		{"f _ = 1;", "a", "(a -> Int)", `(lam "x" a 1)`},
		{"f _ y _ = y;", "a b c", "(a -> (b -> (c -> b)))", `(lam "x" a (lam "y" b (lam "z" c "y")))`},
		{"f = let {x = 1; x = 2} in x;", "", "Int", `(let (("x" Int 1)) "x")`},
		{"f = let {g 0 = 1; g n = n} in g;", "", "(Int -> Int)", `(let (("g" (Int -> Int) (lam "n" Int (case "n" (int 0 1) (else "n"))))) "g")`},
		{"f = let {g True 0 = 1; g _ n = n; h [] = 2} in g;", "", "(Bool -> (Int -> Int))", `(let (
			("g" (Bool -> (Int -> Int)) (lam "b" Bool (lam "n" Int (let (("s" (Int -> Int) (lam "m" Int "m")))
				(case "b" (con "True" () (case "n" (int 0 1) (else (app "s" "n")))) (else (app "s" "n")))))))
			("h" ((List Unit) -> Int) (lam "l" (List Unit) (case "l" (con "Nil" () 2) (else (fail 2 Int)))))) "g")`},
		{"f = \\[] 0 -> 1;", "a", "((List a) -> (Int -> Int))",
			`(lam "l" (List a) (lam "n" Int (case "l" (con "Nil" () (case "n" (int 0 1) (else (fail 2 Int)))) (else (fail 2 Int)))))`},
		{"f = \\(x : _) -> \\(y, z) -> [x, y];", "a b", "((List a) -> ((Pair a b) -> (List a)))", `(lam "l" (List a)
			(case "l" (con "Cons" ("x" "r") (lam "p" (Pair a b) (case "p" (con "Pair" ("y" "z") (app (app (con "Cons" a) "x") (app (app (con "Cons" a) "y") (con "Nil" a)))))))
				(else (fail 2 ((Pair a b) -> (List a))))))`},
		{"f x 0 = x; f x y = y;", "", "(Int -> (Int -> Int))", `(lam "x" Int (lam "y" Int (case "y" (int 0 "x") (else "y"))))`},
	})
}

// TestTrees: P9.5: numbers, constructors of all families, patterns within patterns; with and without an Else.
func TestTrees(t *testing.T) {
	checkBodies(t, []rowCase{
		{"f 2 = 1; f 0 = 2; f 1 = 3; f 0 = 4;", "", "(Int -> Int)", `(lam "x" Int (case "x" (int 0 2) (int 1 3) (int 2 1) (else (fail 2 Int))))`},
		{"f 'a' = True;", "", "(Int -> Bool)", `(lam "x" Int (case "x" (int 97 (con "True")) (else (fail 2 Bool))))`},
		{"f True = 1; f False = 0;", "", "(Bool -> Int)", `(lam "x" Bool (case "x" (con "False" () 0) (con "True" () 1)))`},
		{"f () = 1;", "", "(Unit -> Int)", `(lam "x" Unit (case "x" (con "Unit" () 1)))`},
		{"f (x, y) = x;", "a b", "((Pair a b) -> a)", `(lam "p" (Pair a b) (case "p" (con "Pair" ("x" "y") "x")))`},
		{"f (x, _, z) = z;", "a b c", "((Triple a b c) -> c)", `(lam "p" (Triple a b c) (case "p" (con "Triple" ("x" "y" "z") "z")))`},
		{"f (x : y : _) = y;", "a", "((List a) -> a)", `(lam "l" (List a) (case "l" (con "Cons" ("x" "m") (case "m" (con "Cons" ("y" "n") "y") (else (fail 2 a)))) (else (fail 2 a))))`},
		{"f [x] = x; f [] = stop;", "a", "((List a) -> a)", `(lam "l" (List a) (case "l" (con "Nil" () (fail 1 a)) (con "Cons" ("x" "m") (case "m" (con "Nil" () "x") (else (fail 2 a))))))`},
		{"f \"a\" = 1;", "", "((List Int) -> Int)", `(lam "l" (List Int) (case "l" (con "Cons" ("x" "m") (case "x" (int 97 (case "m" (con "Nil" () 1) (else (fail 2 Int)))) (else (fail 2 Int)))) (else (fail 2 Int))))`},
		{"f ((x, 1), y) = (x, y);", "a b", "((Pair (Pair a Int) b) -> (Pair a b))",
			`(lam "p" (Pair (Pair a Int) b) (case "p" (con "Pair" ("q" "y") (case "q" (con "Pair" ("x" "n") (case "n" (int 1 (app (app (con "Pair" a b) "x") "y")) (else (fail 2 (Pair a b)))))))))`},
		{"data T a = C | B a | A (T a) Int; f C = 0; f (A _ n) = n;", "a", "((M.T a) -> Int)",
			`(lam "x" (M.T a) (case "x" (con "M.C" () 0) (con "M.A" ("t" "n") "n") (else (fail 2 Int))))`},
		{"data T a = C | B a | A (T a) Int; f (A (A (B x) _) 1) = x; f (B y) = y;", "a", "((M.T a) -> a)", `(lam "p" (M.T a) (case "p"
			(con "M.B" ("y") "y")
			(con "M.A" ("q" "n") (case "q" (con "M.A" ("r" "m") (case "r" (con "M.B" ("x") (case "n" (int 1 "x") (else (fail 2 a)))) (else (fail 2 a)))) (else (fail 2 a))))
			(else (fail 2 a))))`},
		// the columns are looked at by the first row
		{"f _ [] = 1; f [] _ = 2;", "a b", "((List a) -> ((List b) -> Int))", `(lam "x" (List a) (lam "y" (List b) (case "y" (con "Nil" () 1) (else (case "x" (con "Nil" () 2) (else (fail 2 Int)))))))`},
		{"data A = A | B | C Int; f 3 _ = 0; f 0 A = 1; f _ B = 2;", "", "(Int -> (M.A -> Int))", `(lam "n" Int (lam "x" M.A
			(let (("s" Int 2)) (case "n" (int 0 (case "x" (con "M.A" () 1) (con "M.B" () "s") (else (fail 2 Int)))) (int 3 0) (else (case "x" (con "M.B" () "s") (else (fail 2 Int))))))))`},
	})
}

// TestPlaces: P9.5: the variables of a row are the local names at their places, which are others in each branch.
func TestPlaces(t *testing.T) {
	checkBodies(t, []rowCase{
		{"f x = case x of {[] -> x; y : z -> case z of {[] -> y : x; y : _ -> [y]}};", "a", "((List a) -> (List a))",
			`(lam "x" (List a) (case "x" (con "Nil" () "x") (con "Cons" ("y" "z") (case "z" (con "Nil" () (app (app (con "Cons" a) "y") "x")) (con "Cons" ("u" "v") (app (app (con "Cons" a) "u") (con "Nil" a)))))))`},
		{"f (x, y) = case x of {0 -> y; 1 -> x; z -> z + y};", "", "((Pair Int Int) -> Int)",
			`(lam "p" (Pair Int Int) (case "p" (con "Pair" ("x" "y") (case "x" (int 0 "y") (int 1 "x") (else (op + "x" "y"))))))`},
		{"data T = L | N T Int T; f (N (N _ a _) b (N _ c _)) = a + b * c; f (N l b L) = f l; f x = 0;", "", "(M.T -> Int)", `(lam "p" M.T
			(let (("s" (M.T -> (Int -> Int)) (lam "l" M.T (lam "b" Int (app (global "M.f") "l")))) ("u" (M.T -> Int) (lam "x" M.T 0)))
				(case "p" (con "M.N" ("i" "j" "k")
					(case "i"
						(con "M.N" ("i0" "i1" "i2") (case "k" (con "M.L" () (app (app "s" "i") "j")) (con "M.N" ("k0" "k1" "k2") (op + "i1" (op * "j" "k1")))))
						(else (case "k" (con "M.L" () (app (app "s" "i") "j")) (else (app "u" "p"))))))
					(else (app "u" "p")))))`},
		{"f x y = case y of {1 -> case x of {y -> y}; _ -> x};", "a", "(a -> (Int -> a))", `(lam "x" a (lam "y" Int (case "y" (int 1 "x") (else "x"))))`},
	})
}

// TestShared: P9.5: rows that are met at two places and more, with variables and without, several in one tree.
func TestShared(t *testing.T) {
	checkBodies(t, []rowCase{
		// without variables: the name alone
		{"f True True = 1; f _ _ = 2;", "", "(Bool -> (Bool -> Int))", `(lam "x" Bool (lam "y" Bool
			(let (("s" Int 2)) (case "x" (con "True" () (case "y" (con "True" () 1) (else "s"))) (else "s")))))`},
		// an answer that is a function makes no lambda of it
		{"f True True = (+); f _ _ = (-);", "", "(Bool -> (Bool -> (Int -> (Int -> Int))))", `(lam "x" Bool (lam "y" Bool
			(let (("s" (Int -> (Int -> Int)) (lam "u" Int (lam "v" Int (op - "u" "v"))))) (case "x" (con "True" () (case "y" (con "True" () (lam "w" Int (lam "z" Int (op + "w" "z")))) (else "s"))) (else "s")))))`},
		// variables in the order in which they stand, those that the body does not name too
		{"f (x, 0) (0, y) = 1; f (a, b) (c, d) = a - d;", "", "((Pair Int Int) -> ((Pair Int Int) -> Int))", `(lam "p" (Pair Int Int) (lam "q" (Pair Int Int)
			(let (("s" (Int -> (Int -> (Int -> (Int -> Int)))) (lam "a" Int (lam "b" Int (lam "c" Int (lam "d" Int (op - "a" "d")))))))
				(case "p" (con "Pair" ("p0" "p1") (case "p1"
					(int 0 (case "q" (con "Pair" ("q0" "q1") (case "q0" (int 0 1) (else (app (app (app (app "s" "p0") "p1") "q0") "q1"))))))
					(else (case "q" (con "Pair" ("r0" "r1") (app (app (app (app "s" "p0") "p1") "r0") "r1"))))))))))`},
		// two shared rows in one tree, one of them without variables, in the rows' order; a third is met once
		{"f 0 [] = 1; f n (x : _) = x; f _ _ = 2;", "", "(Int -> ((List Int) -> Int))", `(lam "n" Int (lam "l" (List Int)
			(let (("s" (Int -> (Int -> Int)) (lam "m" Int (lam "x" Int "x"))))
				(case "n" (int 0 (case "l" (con "Nil" () 1) (con "Cons" ("y" "z") (app (app "s" "n") "y"))))
					(else (case "l" (con "Cons" ("u" "v") (app (app "s" "n") "u")) (else 2)))))))`},
		{"f 0 0 0 = 1; f 1 x 0 = x; f _ _ 1 = 2; f x y z = x + y + z;", "", "(Int -> (Int -> (Int -> Int)))", `(lam "x" Int (lam "y" Int (lam "z" Int
			(let (("s" Int 2) ("r" (Int -> (Int -> (Int -> Int))) (lam "a" Int (lam "b" Int (lam "c" Int (op + (op + "a" "b") "c"))))))
				(case "x"
					(int 0 (case "y"
						(int 0 (case "z" (int 0 1) (int 1 "s") (else (app (app (app "r" "x") "y") "z"))))
						(else (case "z" (int 1 "s") (else (app (app (app "r" "x") "y") "z"))))))
					(int 1 (case "z" (int 0 "y") (int 1 "s") (else (app (app (app "r" "x") "y") "z"))))
					(else (case "z" (int 1 "s") (else (app (app (app "r" "x") "y") "z")))))))))`},
		// the let stands within the one of what is looked at, around the whole tree
		{"f x = case (x, x) of {(0, 0) -> 1; (a, _) -> a};", "", "(Int -> Int)", `(lam "x" Int
			(let (("p" (Pair Int Int) (app (app (con "Pair" Int Int) "x") "x")))
				(let (("s" (Int -> Int) (lam "a" Int "a")))
					(case "p" (con "Pair" ("u" "v") (case "u" (int 0 (case "v" (int 0 1) (else (app "s" "u")))) (else (app "s" "u"))))))))`},
		// what is shared speaks of what is outside, and of itself by the definition
		{"f k = let {g True True = k; g a b = g b (g' a); g' c = c} in g;", "a", "(a -> (Bool -> (Bool -> a)))", `(lam "k" a (let (
			("g" (Bool -> (Bool -> a)) (lam "x" Bool (lam "y" Bool
				(let (("s" (Bool -> (Bool -> a)) (lam "a" Bool (lam "b" Bool (app (app "g" "b") (app "h" "a"))))))
					(case "x" (con "True" () (case "y" (con "True" () "k") (else (app (app "s" "x") "y")))) (else (app (app "s" "x") "y")))))))
			("h" (Bool -> Bool) (lam "c" Bool "c"))) "g"))`},
		// one within another: each around its own tree
		{"f True True = 0; f x _ = case x of {True -> 1; _ -> 2};", "", "(Bool -> (Bool -> Int))", `(lam "x" Bool (lam "y" Bool
			(let (("s" (Bool -> Int) (lam "z" Bool (case "z" (con "True" () 1) (else 2))))) (case "x" (con "True" () (case "y" (con "True" () 0) (else (app "s" "x")))) (else (app "s" "x"))))))`},
		{"f 0 0 = \\x -> case (x, x) of {(1, 1) -> 0; (y, z) -> y + z}; f _ n = \\x -> case [x] of {[0] -> n; _ -> x};", "", "(Int -> (Int -> (Int -> Int)))",
			`(lam "a" Int (lam "b" Int (let (("s" (Int -> (Int -> Int)) (lam "n" Int (lam "x" Int
				(let (("l" (List Int) (app (app (con "Cons" Int) "x") (con "Nil" Int))))
					(let (("o" Int "x"))
						(case "l" (con "Cons" ("l0" "l1") (case "l0" (int 0 (case "l1" (con "Nil" () "n") (else "o"))) (else "o"))) (else "o"))))))))
				(case "a" (int 0 (case "b" (int 0 (lam "c" Int
					(let (("p" (Pair Int Int) (app (app (con "Pair" Int Int) "c") "c")))
						(let (("q" (Int -> (Int -> Int)) (lam "y" Int (lam "z" Int (op + "y" "z")))))
							(case "p" (con "Pair" ("d" "e") (case "d" (int 1 (case "e" (int 1 0) (else (app (app "q" "d") "e")))) (else (app (app "q" "d") "e"))))))))) (else (app "s" "b"))))
					(else (app "s" "b"))))))`},
		// types of the variables: the definition's parameters, and Unit
		{"f (x : _) True = [x]; f l b = l;", "a", "((List a) -> (Bool -> (List a)))", `(lam "l" (List a) (lam "b" Bool
			(let (("s" ((List a) -> (Bool -> (List a))) (lam "m" (List a) (lam "c" Bool "m"))))
				(case "l" (con "Cons" ("x" "y") (case "b" (con "True" () (app (app (con "Cons" a) "x") (con "Nil" a))) (else (app (app "s" "l") "b")))) (else (app (app "s" "l") "b"))))))`},
		{"f = case ([], 0) of {([], 0) -> 1; (l, n) -> n};", "", "Int", `(let (("p" (Pair (List Unit) Int) (app (app (con "Pair" (List Unit) Int) (con "Nil" Unit)) 0)))
			(let (("s" ((List Unit) -> (Int -> Int)) (lam "l" (List Unit) (lam "n" Int "n"))))
				(case "p" (con "Pair" ("u" "v") (case "u" (con "Nil" () (case "v" (int 0 1) (else (app (app "s" "u") "v")))) (else (app (app "s" "u") "v")))))))`},
		// a shared row behind one that is met nowhere
		{"f 0 0 = 1; f a b = a; f c d = d;", "", "(Int -> (Int -> Int))", `(lam "x" Int (lam "y" Int
			(let (("s" (Int -> (Int -> Int)) (lam "a" Int (lam "b" Int "a")))) (case "x" (int 0 (case "y" (int 0 1) (else (app (app "s" "x") "y")))) (else (app (app "s" "x") "y"))))))`},
	})
}

// TestLeftOut: P9.5: a row that is met nowhere is left out, with all that stands in it.
func TestLeftOut(t *testing.T) {
	checkBodies(t, []rowCase{
		{"f x = 1; f 0 = case 1 of {2 -> 3};", "", "(Int -> Int)", `(lam "x" Int 1)`},
		{"f True = 1; f False = 2; f x = case x of {True -> 3};", "", "(Bool -> Int)", `(lam "x" Bool (case "x" (con "False" () 2) (con "True" () 1)))`},
		{"f (x : []) = x; f (x : y) = x; f [] = 0; f [z] = f (z : []);", "", "((List Int) -> Int)",
			`(lam "l" (List Int) (case "l" (con "Nil" () 0) (con "Cons" ("x" "y") (case "y" (con "Nil" () "x") (else "x")))))`},
		// its number is looked at all the same, and so the row that is met there stands at two places
		{"f x = case x of {0 -> 1; y -> y; 1 -> f 2};", "", "(Int -> Int)",
			`(lam "x" Int (let (("s" (Int -> Int) (lam "y" Int "y"))) (case "x" (int 0 1) (int 1 (app "s" "x")) (else (app "s" "x")))))`},
	})
}
