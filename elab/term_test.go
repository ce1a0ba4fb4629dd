package elab_test

import "testing"

// TestExamples: the chapter's, and those of its words.
func TestExamples(t *testing.T) {
	check(t, "id x = x; n = id 3;", `(def "M.id" (a) (a -> a) (lam "x" a "x")) (def "M.n" () Int (app (global "M.id" Int) 3))`)
	check(t, "f True y = y; f x y = 0;", `(def "M.f" () (Bool -> (Int -> Int)) (lam "p" Bool (lam "q" Int (case "p" (con "True" () "q") (else 0)))))`)
	check(t, "g 0 0 = 1; g a b = a + b;", `(def "M.g" () (Int -> (Int -> Int)) (lam "p" Int (lam "q" Int
		(let (("s" (Int -> (Int -> Int)) (lam "a" Int (lam "b" Int (op + "a" "b")))))
			(case "p" (int 0 (case "q" (int 0 1) (else (app (app "s" "p") "q")))) (else (app (app "s" "p") "q")))))))`)
	check(t, "h (x : l) = x;", `(def "M.h" (a) ((List a) -> a) (lam "p" (List a) (case "p" (con "Cons" ("x" "l") "x") (else (fail 2 a)))))`)
	check(t, "a = (+); b = (+ 1); c = (1 +);", `(def "M.a" () (Int -> (Int -> Int)) (lam "x" Int (lam "y" Int (op + "x" "y"))))
		(def "M.b" () (Int -> Int) (lam "x" Int (op + "x" 1)))
		(def "M.c" () (Int -> Int) (app (lam "x" Int (lam "y" Int (op + "x" "y"))) 1))`)
	check(t, "u x = case [] of {[] -> x; y : l -> x};", `(def "M.u" (a) (a -> a) (lam "x" a
		(let (("s" (List Unit) (con "Nil" Unit))) (case "s" (con "Nil" () "x") (con "Cons" ("y" "l") "x")))))`)
	check(t, "v = if 1 == 2 then 3 else stop;", `(def "M.v" () Int (case (op == 1 2) (con "False" () (fail 1 Int)) (con "True" () 3)))`)
}

// TestNames: P9.3: locals, definitions at their types, numbers, constructors, stop.
func TestNames(t *testing.T) {
	for _, x := range []struct{ decls, params, is, body string }{
		{"f x y = y;", "a b", "(a -> (b -> b))", `(lam "x" a (lam "y" b "y"))`},
		{"f = 0;", "", "Int", `0`},
		{"f = 4611686018427387903;", "", "Int", `4611686018427387903`},
		{"f = 'a';", "", "Int", `97`},
		{"f = 0x1f;", "", "Int", `31`},
		{"f = True;", "", "Bool", `(con "True")`},
		{"f = ();", "", "Unit", `(con "Unit")`},
		{"f = [];", "a", "(List a)", `(con "Nil" a)`},
		{"f = (:);", "a", "(a -> ((List a) -> (List a)))", `(con "Cons" a)`},
		{"f = \"ab\";", "", "(List Int)", `(app (app (con "Cons" Int) 97) (app (app (con "Cons" Int) 98) (con "Nil" Int)))`},
		{"f = [True];", "", "(List Bool)", `(app (app (con "Cons" Bool) (con "True")) (con "Nil" Bool))`},
		{"f x = (x, 1);", "a", "(a -> (Pair a Int))", `(lam "x" a (app (app (con "Pair" a Int) "x") 1))`},
		{"f x = (1, x, [x]);", "a", "(a -> (Triple Int a (List a)))", `(lam "x" a (app (app (app (con "Triple" Int a (List a)) 1) "x") (app (app (con "Cons" a) "x") (con "Nil" a))))`},
		{"data T a b = A | B b (T b a); f = B;", "a b", "(a -> ((M.T a b) -> (M.T b a)))", `(con "M.B" b a)`},
		{"data T a b = A | B b (T b a); f = B 1 A;", "a", "(M.T a Int)", `(app (app (con "M.B" a Int) 1) (con "M.A" Int a))`},
		{"data P a = P; f = P;", "a", "(M.P a)", `(con "M.P" a)`},
		{"data P a = P; f = seq P 1;", "", "Int", `(seq (con "M.P" Unit) 1)`},
		{"data F a b = F (a -> b) Int; f = F (\\x -> [x]);", "a", "(Int -> (M.F a (List a)))",
			`(app (con "M.F" a (List a)) (lam "x" a (app (app (con "Cons" a) "x") (con "Nil" a))))`},
		{"f = stop;", "a", "a", `(fail 1 a)`},
		{"f = stop + 1;", "", "Int", `(op + (fail 1 Int) 1)`},
		{"f = seq stop 1;", "", "Int", `(seq (fail 1 Unit) 1)`},
		{"f x = stop x 1;", "a b", "(a -> b)", `(lam "x" a (app (app (fail 1 (a -> (Int -> b))) "x") 1))`},
		{"f x = [stop, x];", "a", "(a -> (List a))", `(lam "x" a (app (app (con "Cons" a) (fail 1 a)) (app (app (con "Cons" a) "x") (con "Nil" a))))`},
	} {
		checkBody(t, x.decls, x.params, x.is, x.body)
	}
}

// TestTypes: P9.3: the Types of a definition make its type what it is there.
func TestTypes(t *testing.T) {
	for _, x := range []struct{ decls, params, is, body string }{
		{"i x = x; f = i;", "a", "(a -> a)", `(global "M.i" a)`},
		{"i x = x; f = (i 1, i True, i i 2);", "", "(Triple Int Bool Int)",
			`(app (app (app (con "Triple" Int Bool Int) (app (global "M.i" Int) 1)) (app (global "M.i" Bool) (con "True"))) (app (app (global "M.i" (Int -> Int)) (global "M.i" Int)) 2))`},
		{"k x y = x; f x y = k y x;", "a b", "(a -> (b -> b))", `(lam "x" a (lam "y" b (app (app (global "M.k" b a) "y") "x")))`},
		{"k x y = x; f x = k x [];", "a", "(a -> a)", `(lam "x" a (app (app (global "M.k" a (List Unit)) "x") (con "Nil" Unit)))`},
		{"n = 1; f = n;", "", "Int", `(global "M.n")`},
		{"i x = x; f = seq (i stop) 1;", "", "Int", `(seq (app (global "M.i" Unit) (fail 1 Unit)) 1)`},
		{"k x y z = (z, x); f = k 1 True;", "a", "(a -> (Pair a Int))", `(app (app (global "M.k" Int Bool a) 1) (con "True"))`},
		{"k :: z -> y -> z; k x y = x; f = k True 1;", "", "Bool", `(app (app (global "M.k" Bool Int) (con "True")) 1)`},
		{"data T a = T a Int; k (T x n) = x; f = k (T [1] 2);", "", "(List Int)",
			`(app (global "M.k" (List Int)) (app (app (con "M.T" (List Int)) (app (app (con "Cons" Int) 1) (con "Nil" Int))) 2))`},
	} {
		checkBody(t, x.decls, x.params, x.is, x.body)
	}
}

// TestManyParams: P9.2, P9.3: parameters and Types stand in the order of the type, not in that of their names.
func TestManyParams(t *testing.T) {
	p := checkTaken(t, "module M; k"+numbers(16, " x#")+" = \\"+numbers(14, "y# ")+"-> stop; f x = k [x]"+numbers(15, " #")+numbers(14, " #")+";")
	if len(p.Defs) != 2 {
		return
	}
	want := []string{}
	for _, letter := range "abcdefghijklmnopqrstuvwxyz" {
		want = append(want, string(letter))
	}
	want = append(want, "a1", "b1", "c1", "d1", "e1")
	k := p.Defs[0]
	if len(k.Params) != 31 {
		t.Fatal(k.Params)
	}
	for i, name := range want {
		if k.Params[i] != name {
			t.Fatal(k.Params)
		}
	}
	e := p.Defs[1].Body.Args[0] // k with 30 arguments
	for range 30 {
		e = e.Args[0]
	}
	if e.Name != "M.k" || len(e.Types) != 31 || e.Types[0].Name != "List" || e.Types[30].Name != "b" {
		t.Fatal(e)
	}
	for _, is := range e.Types[1:30] {
		if is.Name != "" {
			t.Fatal(e)
		}
	}
}

// TestOperators: P9.3: operators and seq, of two arguments, of one, of none; sections.
func TestOperators(t *testing.T) {
	for _, op := range []string{"+", "-", "*", "/", "%"} {
		checkBody(t, "f x y = x "+op+" y;", "", "(Int -> (Int -> Int))", `(lam "x" Int (lam "y" Int (op `+op+` "x" "y")))`)
		checkBody(t, "f = ("+op+") 1 2;", "", "Int", `(op `+op+` 1 2)`)
	}
	for _, op := range []string{"==", "/=", "<", "<=", ">", ">="} {
		checkBody(t, "f x y = x "+op+" y;", "", "(Int -> (Int -> Bool))", `(lam "x" Int (lam "y" Int (op `+op+` "x" "y")))`)
		checkBody(t, "f = ("+op+");", "", "(Int -> (Int -> Bool))", `(lam "x" Int (lam "y" Int (op `+op+` "x" "y")))`)
		checkBody(t, "f = ("+op+" 7);", "", "(Int -> Bool)", `(lam "x" Int (op `+op+` "x" 7))`)
	}
	for _, x := range []struct{ decls, params, is, body string }{
		{"f = 1 + 2 * 3 - 4;", "", "Int", `(op - (op + 1 (op * 2 3)) 4)`},
		{"f = (+) 1;", "", "(Int -> Int)", `(app (lam "x" Int (lam "y" Int (op + "x" "y"))) 1)`},
		{"f = (1 -);", "", "(Int -> Int)", `(app (lam "x" Int (lam "y" Int (op - "x" "y"))) 1)`},
		{"f = (- 1);", "", "(Int -> Int)", `(lam "x" Int (op - "x" 1))`},
		{"f g = g (+) 1;", "a", "(((Int -> (Int -> Int)) -> (Int -> a)) -> a)",
			`(lam "g" ((Int -> (Int -> Int)) -> (Int -> a)) (app (app "g" (lam "x" Int (lam "y" Int (op + "x" "y")))) 1))`},
		{"f = seq;", "a b", "(a -> (b -> b))", `(lam "x" a (lam "y" b (seq "x" "y")))`},
		{"f = seq 1;", "a", "(a -> a)", `(app (lam "x" Int (lam "y" a (seq "x" "y"))) 1)`},
		{"f x y = seq x y;", "a b", "(a -> (b -> b))", `(lam "x" a (lam "y" b (seq "x" "y")))`},
		{"f x y = x `seq` y;", "a b", "(a -> (b -> b))", `(lam "x" a (lam "y" b (seq "x" "y")))`},
		{"f = seq 1 (+) 2;", "", "(Int -> Int)", `(app (seq 1 (lam "x" Int (lam "y" Int (op + "x" "y")))) 2)`},
		{"f = seq 1 (+) 2 3;", "", "Int", `(app (app (seq 1 (lam "x" Int (lam "y" Int (op + "x" "y")))) 2) 3)`},
		{"f = seq seq 1;", "", "Int", `(seq (lam "x" Unit (lam "y" Unit (seq "x" "y"))) 1)`},
		{"f = (`seq` 1);", "a", "(a -> Int)", `(lam "x" a (seq "x" 1))`},
		{"f = (1 `seq`);", "a", "(a -> a)", `(app (lam "x" Int (lam "y" a (seq "x" "y"))) 1)`},
		{"f = (: []);", "a", "(a -> (List a))", `(lam "x" a (app (app (con "Cons" a) "x") (con "Nil" a)))`},
		{"f = (1 :);", "", "((List Int) -> (List Int))", `(app (con "Cons" Int) 1)`},
		{"k x y = x; f = (`k` 1);", "a", "(a -> a)", `(lam "x" a (app (app (global "M.k" a Int) "x") 1))`},
		{"k x y = x; f = (1 `k`);", "a", "(a -> Int)", `(app (global "M.k" Int a) 1)`},
		{"infixl 3 &; (&) x y = y; f = (& 1 + 2);", "a", "(a -> Int)", `(lam "x" a (app (app (global "M.&" a Int) "x") (op + 1 2)))`},
		{"f g x = (`g` x);", "a b c", "((a -> (b -> c)) -> (b -> (a -> c)))",
			`(lam "g" (a -> (b -> c)) (lam "x" b (lam "y" a (app (app "g" "y") "x"))))`},
		{"f x = (+ x) x;", "", "(Int -> Int)", `(lam "x" Int (app (lam "y" Int (op + "y" "x")) "x"))`},
		{"f = (`stop` 1);", "a b", "(a -> b)", `(lam "x" a (app (app (fail 1 (a -> (Int -> b))) "x") 1))`},
		{"f = ((+ 1) `seq`);", "a", "(a -> a)", `(app (lam "x" (Int -> Int) (lam "y" a (seq "x" "y"))) (lam "z" Int (op + "z" 1)))`},
	} {
		checkBody(t, x.decls, x.params, x.is, x.body)
	}
}

// TestForms: P9.3: applications, lambdas, lets, if, case.
func TestForms(t *testing.T) {
	for _, x := range []struct{ decls, params, is, body string }{
		{"f g x = g x x;", "a b", "((a -> (a -> b)) -> (a -> b))", `(lam "g" (a -> (a -> b)) (lam "x" a (app (app "g" "x") "x")))`},
		{"f = \\x -> x;", "a", "(a -> a)", `(lam "x" a "x")`},
		{"f = \\x y _ -> y;", "a b c", "(a -> (b -> (c -> b)))", `(lam "x" a (lam "y" b (lam "z" c "y")))`},
		{"f = (\\x -> x) 1;", "", "Int", `(app (lam "x" Int "x") 1)`},
		{"f = \\(x, 1) -> x;", "a", "((Pair a Int) -> a)", `(lam "p" (Pair a Int) (case "p" (con "Pair" ("x" "y") (case "y" (int 1 "x") (else (fail 2 a))))))`},
		{"f = let {x = 1} in x;", "", "Int", `(let (("x" Int 1)) "x")`},
		{"f = let {x = 1 : y; y = 2 : x; z = 3} in (x, z);", "", "(Pair (List Int) Int)",
			`(let (("x" (List Int) (app (app (con "Cons" Int) 1) "y")) ("y" (List Int) (app (app (con "Cons" Int) 2) "x")) ("z" Int 3)) (app (app (con "Pair" (List Int) Int) "x") "z"))`},
		{"f x = let {g y = x; h = g 1} in h;", "a", "(a -> a)", `(lam "x" a (let (("g" (Int -> a) (lam "y" Int "x")) ("h" a (app "g" 1))) "h"))`},
		{"f x = let {g y z = z} in x;", "a", "(a -> a)", `(lam "x" a (let (("g" (Unit -> (Unit -> Unit)) (lam "y" Unit (lam "z" Unit "z")))) "x"))`},
		{"f = let {(+++) x y = x * y} in 2 +++ 3;", "", "Int", `(let (("o" (Int -> (Int -> Int)) (lam "x" Int (lam "y" Int (op * "x" "y"))))) (app (app "o" 2) 3))`},
		{"f = let {(+++) x y = x * y} in (+++ 3);", "", "(Int -> Int)",
			`(let (("o" (Int -> (Int -> Int)) (lam "x" Int (lam "y" Int (op * "x" "y"))))) (lam "z" Int (app (app "o" "z") 3)))`},
		{"f c a b = if c then a else b;", "a", "(Bool -> (a -> (a -> a)))",
			`(lam "c" Bool (lam "a" a (lam "b" a (case "c" (con "False" () "b") (con "True" () "a")))))`},
		{"f = if True then 1 else if False then 2 else 3;", "", "Int",
			`(case (con "True") (con "False" () (case (con "False") (con "False" () 3) (con "True" () 2))) (con "True" () 1))`},
		{"f x = case x of {y -> y};", "a", "(a -> a)", `(lam "x" a "x")`},
		{"f x = case (x) of {(y) -> ((y))};", "a", "(a -> a)", `(lam "x" a "x")`},
		{"f = case 1 of {y -> y};", "", "Int", `(let (("s" Int 1)) "s")`},
		{"f = case f of {y -> 1};", "", "Int", `(let (("s" Int (global "M.f"))) 1)`},
		{"f = case stop of {_ -> 1};", "", "Int", `(let (("s" Unit (fail 1 Unit))) 1)`},
		{"f = case (+) of {o -> o 1 2};", "", "Int", `(let (("s" (Int -> (Int -> Int)) (lam "x" Int (lam "y" Int (op + "x" "y"))))) (app (app "s" 1) 2))`},
		{"f x = case [x] of {[y] -> y};", "a", "(a -> a)", `(lam "x" a (let (("s" (List a) (app (app (con "Cons" a) "x") (con "Nil" a))))
			(case "s" (con "Cons" ("y" "l") (case "l" (con "Nil" () "y") (else (fail 2 a)))) (else (fail 2 a)))))`},
		{"f = let {x = 1} in case x of {1 -> 2; _ -> x};", "", "Int", `(let (("x" Int 1)) (case "x" (int 1 2) (else "x")))`},
		{"f x = let {g = case x of {0 -> 1; n -> n}} in g;", "", "(Int -> Int)", `(lam "x" Int (let (("g" Int (case "x" (int 0 1) (else "x")))) "g"))`},
		{"f x = case (case x of {0 -> 1; n -> n}) of {2 -> 3; m -> m + x};", "", "(Int -> Int)",
			`(lam "x" Int (let (("s" Int (case "x" (int 0 1) (else "x")))) (case "s" (int 2 3) (else (op + "s" "x")))))`},
	} {
		checkBody(t, x.decls, x.params, x.is, x.body)
	}
}

// TestHiding: a local name that the source binds in several places, within one another and beside one another.
func TestHiding(t *testing.T) {
	for _, x := range []struct{ decls, params, is, body string }{
		{"f x = (\\x -> x) x;", "a", "(a -> a)", `(lam "x" a (app (lam "y" a "y") "x"))`},
		{"f x = (\\x -> [x]) (x, (\\x -> x) x);", "a", "(a -> (List (Pair a a)))",
			`(lam "x" a (app (lam "y" (Pair a a) (app (app (con "Cons" (Pair a a)) "y") (con "Nil" (Pair a a)))) (app (app (con "Pair" a a) "x") (app (lam "z" a "z") "x"))))`},
		{"f x = let {x = 1 : x} in x;", "a", "(a -> (List Int))", `(lam "x" a (let (("y" (List Int) (app (app (con "Cons" Int) 1) "y"))) "y"))`},
		{"f x = (let {x = 1} in x, x);", "a", "(a -> (Pair Int a))", `(lam "x" a (app (app (con "Pair" Int a) (let (("y" Int 1)) "y")) "x"))`},
		{"f x = case x of {x : y -> case y of {y : x -> y; _ -> x}; y -> 1};", "", "((List Int) -> Int)",
			`(lam "a" (List Int) (case "a" (con "Cons" ("b" "c") (case "c" (con "Cons" ("d" "e") "d") (else "b"))) (else 1)))`},
		{"f x = case x of {0 -> \\y -> y; 1 -> \\y -> y + x; x -> \\y -> x};", "", "(Int -> (Int -> Int))",
			`(lam "x" Int (case "x" (int 0 (lam "a" Int "a")) (int 1 (lam "b" Int (op + "b" "x"))) (else (lam "c" Int "x"))))`},
		{"f x = let {g x = x; h x = g x} in h x;", "a", "(a -> a)", `(lam "x" a (let (("g" (a -> a) (lam "y" a "y")) ("h" (a -> a) (lam "z" a (app "g" "z")))) (app "h" "x")))`},
		{"f x = let {f x = x} in f x;", "a", "(a -> a)", `(lam "x" a (let (("g" (a -> a) (lam "y" a "y")) ) (app "g" "x")))`},
		{"f x = let {f 0 = 1; f x = M.f x} in f x;", "", "(Int -> Int)", `(lam "x" Int (let (("g" (Int -> Int) (lam "y" Int (case "y" (int 0 1) (else (app (global "M.f") "y")))))) (app "g" "x")))`},
		{"f x1 x2 = \\x1 -> let {x3 = x1; x1 = x2} in (x1, x3);", "a b c", "(a -> (b -> (c -> (Pair b b))))",
			`(lam "p" a (lam "q" b (lam "r" c (let (("x" b "y") ("y" b "q")) (app (app (con "Pair" b b) "y") "x")))))`},
	} {
		checkBody(t, x.decls, x.params, x.is, x.body)
	}
}
