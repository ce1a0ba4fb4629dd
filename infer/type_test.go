package infer_test

import (
	"strings"
	"testing"

	"sloth/api"
	"sloth/infer"
)

// P6.2: the types of definitions.

func TestExamples(t *testing.T) {
	for _, x := range []struct{ text, want string }{
		{"module M;/id x = x;/k x y = x;/n = id 3;/", "M.id : a -> a; M.k : a -> b -> a; M.n : Int"},
		{"module M;/map f [] = [];/map f (x : l) = f x : map f l;/", "M.map : (a -> b) -> List a -> List b"},
		{"module M;/even n = if n == 0 then True else odd (n - 1);/odd n = if n == 0 then False else even (n - 1);/", "M.even : Int -> Bool; M.odd : Int -> Bool"},
		{"module M;/p x = let {g y = x} in (g 1, g 2);/", "M.p : a -> Pair a a"},
		{"module M;/f :: a -> b -> a;/f x y = x;/g = f;/", "M.f : a -> b -> a; M.g : a -> b -> a"},
		{"module M;/f :: a -> a -> a;/f x y = x;/", "M.f : a -> a -> a"},
		{"module M;/f x = g x;/g :: Int -> Int;/g y = f y;/", "M.f : Int -> Int; M.g : Int -> Int"},
		{"module M;/a = b;/b = a;/", "M.a : a; M.b : a"},
		{"module M;/s = (+ 1);/t = (1 +);/u = seq 1;/v = stop;/", "M.s : Int -> Int; M.t : Int -> Int; M.u : a -> a; M.v : a"},
		{"module M;/data T a = L | N (T a) a (T a);/f L = [];/f (N l x r) = x : f l;/", "M.f : M.T a -> List a"},
		{"module M;/", ""},
	} {
		l := checkTaken(t, strings.ReplaceAll(x.text, "/", "\n"))
		if toldAll(l) != x.want {
			t.Errorf("Infer(%s): %s\nwant %s", x.text, toldAll(l), x.want)
		}
	}
	for _, x := range []struct {
		decls string
		code  api.Errno
		name  string
	}{
		{"p = let {g y = y} in (g 1, g True);", api.ErrInferMismatch, "p"},
		{"w x = x x;", api.ErrInferOccurs, "w"},
		{"f :: a -> b; f x = x;", api.ErrInferSig, "f"},
		{"f :: a -> Int; f x = x;", api.ErrInferSig, "f"},
		{"f :: Int -> Bool; f x = x;", api.ErrInferMismatch, "f"},
	} {
		checkBad(t, x.decls, x.code, x.name)
	}
	if l, err := infer.Infer(nil); len(l) != 0 || err != nil {
		t.Error("Infer of no texts:", l, err)
	}
}

// TestBuiltIn: what is built in, alone; each use is an instance of its own.
func TestBuiltIn(t *testing.T) {
	for _, op := range strings.Fields("+ - * / %") {
		checkTold(t, "x = ("+op+");", "x : Int -> Int -> Int")
	}
	for _, op := range strings.Fields("== /= < <= > >=") {
		checkTold(t, "x = ("+op+");", "x : Int -> Int -> Bool")
	}
	for _, x := range []struct{ decls, want string }{
		{"x = seq; y = stop;", "x : a -> b -> b; y : a"},
		{"x = False; y = True; z = ();", "x : Bool; y : Bool; z : Unit"},
		{"x = []; y = (:);", "x : List a; y : a -> List a -> List a"},
		{"x a b = (a, b); y a b c = (a, b, c);", "x : a -> b -> Pair a b; y : a -> b -> c -> Triple a b c"},
		{"x = seq (seq 1 True) (seq True 1);", "x : Int"},
		{"x = ([True], [1], [[]]);", "x : Triple (List Bool) (List Int) (List (List a))"},
		{"x = (stop + 1, if stop then stop else stop, stop stop);", "x : Triple Int a b"},
		{"x = stop; y = (x + 1, x : [True]);", "x : a; y : Pair Int (List Bool)"},
	} {
		checkTold(t, x.decls, x.want)
	}
}

func TestPatterns(t *testing.T) {
	for _, x := range []struct{ decls, want string }{
		{"f _ = 1;", "f : a -> Int"},
		{"f x = x;", "f : a -> a"},
		{"f 0 = True; f 'a' = False; f _ = True;", "f : Int -> Bool"},
		{"f True = 0; f False = 1;", "f : Bool -> Int"},
		{"f () = 1;", "f : Unit -> Int"},
		{"f [] = 1; f (x : l) = 2;", "f : List a -> Int"},
		{"f (x : l) = x; g (x : l) = l;", "f : List a -> a; g : List a -> List a"},
		{"f [x] = x; g [x, 1] = x; h \"ab\" = 1;", "f : List a -> a; g : List Int -> Int; h : List Int -> Int"},
		{"f (a, b) = b; g (a, b, c) = b;", "f : Pair a b -> b; g : Triple a b c -> b"},
		{"f (a, 1) [b] (c : (d, _) : _) = (a, b, d);", "f : Pair a Int -> List b -> List (Pair c d) -> Triple a b c"},
		{"f a b c d e g h i j k l m n o p q = q;", "f : a -> b -> c -> d -> e -> f -> g -> h -> i -> j -> k -> l -> m -> n -> o -> p -> p"},
		{"data T a b = A (a -> b) Int | B (T b a) | C; f (A g 1) = g; f (B (A g _)) = \\x -> x; f C = \\y -> y;", "f : T a a -> a -> a"},
		{"data T a b = A (a -> b) Int | B (T b a) | C; f (B (A g _)) = g; f (B (B x)) = f (B x);", "f : T a a -> a -> a"},
		{"data T a b = A (a -> b) Int | B (T b a) | C; f (B (A g _)) = g; f (B (B x)) = f x;", "f : T a b -> b -> a"},
		{"data T a = T Int; f (T x) = x; g (T _) (T _) = 1;", "f : T a -> Int; g : T a -> T b -> Int"},
		{"data T a b = T b a; f (T x y) = x;", "f : T a b -> b"},
		{"data T a = T [a] (a, Int) () Bool; f (T x y z w) = (x, y, (z, w));", "f : T a -> Triple (List a) (Pair a Int) (Pair Unit Bool)"},
		// of several clauses all say something
		{"f 1 x = x; f x [] = [];", "f : Int -> List a -> List a"},
		{"f x _ = x; f _ (y : _) = y;", "f : a -> List a -> a"},
		{"f x y = 1; f (a, b) _ = a; f _ True = 1;", "f : Pair Int a -> Bool -> Int"},
	} {
		checkTold(t, x.decls, x.want)
	}
}

func TestExpressions(t *testing.T) {
	for _, x := range []struct{ decls, want string }{
		{"f = 1; g = 'a'; h = \"ab\"; i = \"\";", "f : Int; g : Int; h : List Int; i : List a"},
		{"f x y = x y; g x y z = x z (y z);", "f : (a -> b) -> a -> b; g : (a -> b -> c) -> (a -> b) -> a -> c"},
		{"f x = x + 1 * 2 == 3;", "f : Int -> Bool"},
		{"f = \\x -> x; g = \\x y -> y; h = \\(x, 1) [y] -> x y;", "f : a -> a; g : a -> b -> b; h : Pair (a -> b) Int -> List a -> b"},
		{"f = \\x -> \\y -> x; g x = \\y -> (x, y);", "f : a -> b -> a; g : a -> b -> Pair a b"},
		{"f c a b = if c then a else b; g c = if c then 1 else 2;", "f : Bool -> a -> a -> a; g : Bool -> Int"},
		{"f x = case x of {1 -> True; _ -> False}; g x = case x of {[] -> stop; y : _ -> y};", "f : Int -> Bool; g : List a -> a"},
		{"f x = case x of {y -> y}; g x = case x of {_ -> 1}; h x y = case x of {(_, 1) -> y; (z, _) -> z};", "f : a -> a; g : a -> Int; h : Pair a Int -> a -> a"},
		// sections, of what is built in, of locals and of definitions
		{"f = (+ 1); g = (1 +); h = (== 1); i x = (: x); j x = (x :); k x = (`seq` x);", "f : Int -> Int; g : Int -> Int; h : Int -> Bool; i : List a -> a -> List a; j : a -> List a -> List a; k : a -> b -> a"},
		{"(&) a b = (b, a, 1); f x = (& x); g x = (x &);", "& : a -> b -> Triple b a Int; f : a -> b -> Triple a b Int; g : a -> b -> Triple b a Int"},
		{"f g x = (`g` x); h g x = (x `g`);", "f : (a -> b -> c) -> b -> a -> c; h : (a -> b) -> a -> b"},
		{"f = let { (&) a b = [a, b, 1] } in (& 2);", "f : Int -> List Int"},
		{"f x = (+ x * 2);", "f : Int -> Int -> Int"},
		// lets
		{"f x = let {y = x} in y; g = let {y = 1; z = True} in (y, z);", "f : a -> a; g : Pair Int Bool"},
		{"f = let {g 0 x = x; g n x = g (n - 1) x} in g;", "f : Int -> a -> a"},
		{"f = let {g x = h x; h x = g x} in g; k = let {g x = 1 + h x; h x = g x} in h;", "f : a -> b; k : a -> Int"},
		{"f x = let {g y = (x, y)} in g;", "f : a -> b -> Pair a b"},
		{"f = let {ones = 1 : ones} in ones; g x = let {l = x : l} in l;", "f : List Int; g : a -> List a"},
		{"f = let {g 1 = True; g x = False; h True = 1} in \\x -> h (g x);", "f : Int -> Int"},
		{"data T a = K a (T a) | E; f = K; g = K 1; h = K 1 E;", "f : a -> T a -> T a; g : T Int -> T Int; h : T Int"},
	} {
		checkTold(t, x.decls, x.want)
	}
}

// TestLocals: which binding a name means, and that it has one type.
func TestLocals(t *testing.T) {
	for _, x := range []struct{ decls, want string }{
		{"f x = \\x -> x + 1;", "f : a -> Int -> Int"},
		{"f x = (\\x -> x + 1, x);", "f : a -> Pair (Int -> Int) a"},
		{"f x = (let {x = 1} in x + 1, x);", "f : a -> Pair Int a"},
		{"f x = (case x of {(x, _) -> x + 1}, x);", "f : Pair Int a -> Pair Int (Pair Int a)"},
		{"f x = let {x = 1; y x = if x then 1 else 2} in (x + 1, y);", "f : a -> Pair Int (Bool -> Int)"},
		{"f x = let {g x = x + 1; h = x} in (h, g);", "f : a -> Pair a (Int -> Int)"},
		{"f x = case 1 of {x -> x; y -> y};", "f : a -> Int"},
		{"f x = case [x] of {[x] -> x; y -> stop};", "f : a -> a"},
		{"f x = [case True of {x -> 1}, case x of {x -> 2}, x];", "f : Int -> List Int"},
		{"f x = (\\x -> case x of {x -> \\x -> x}, x);", "f : a -> Pair (b -> c -> c) a"},
		{"f y = let {x = y} in case 1 of {y -> x};", "f : a -> a"},
		{"f = let {g = \\g -> g + 1} in g; g = True;", "f : Int -> Int; g : Bool"},
		{"f x = let {f = x} in f; g f = f + 1;", "f : a -> a; g : Int -> Int"},
		{"f x = let {y = let {x = 1} in x} in (y, x);", "f : a -> Pair Int a"},
		{"x = 1; f x = if x then 1 else 2; y = x;", "x : Int; f : Bool -> Int; y : Int"},
		{"f = let {g x = 1; h x = g} in h;", "f : a -> b -> Int"},
	} {
		checkTold(t, x.decls, x.want)
	}
	uses := []struct{ body, want string }{
		{"(g 1, g True)", "Pair Int Bool"}, {"g g 1", "Int"}, {"if g True then g 1 else 2", "Int"},
		{"let {a = g 1; b = g True} in 1", "Int"}, {"case g 1 of {_ -> g ()}", "Unit"},
	}
	for _, bind := range []string{
		"let {g y = y} in BODY", "let {g = \\y -> y} in BODY", "let {g x y = y; h = g 1} in let {g = h} in BODY",
		"(\\g -> BODY) id", "case id of {g -> BODY}", "case (id, 1) of {(g, _) -> BODY}", "let {h = id} in let {g = h} in BODY",
	} {
		for _, use := range uses {
			text := "module M; id x = x; p = " + strings.ReplaceAll(bind, "BODY", use.body) + ";"
			l, err := infer.Infer([]string{text})
			if fault, _ := api.Seen(err); fault.Name != "M.p" || len(l) > 0 {
				t.Errorf("Infer(%s): %s, %v: a local is used at two types", text, toldAll(l), err)
			}
		}
	}
	for _, use := range uses {
		checkTold(t, "g x = x; p = "+use.body+";", "g : a -> a; p : "+use.want)
	}
	checkBad(t, "f x = (x + 1, if x then 1 else 2);", api.ErrInferMismatch, "f")
	checkBad(t, "f x = let {g y = [x, y]} in (g 1, g True);", api.ErrInferMismatch, "f")
}

// TestGroups: within a group a definition has one type; what was worked out ahead has many.
func TestGroups(t *testing.T) {
	for _, x := range []struct{ decls, want string }{
		{"id x = x; p = (id 1, id True, id id);", "id : a -> a; p : Triple Int Bool (a -> a)"},
		{"p = (id 1, id True, id id); id x = x;", "p : Triple Int Bool (a -> a); id : a -> a"},
		{"a = b; b = c; c x = d; d = 1;", "a : a -> Int; b : a -> Int; c : a -> Int; d : Int"},
		{"f x = f x; g x = f x + f True;", "f : a -> b; g : a -> Int"},
		// rings: of two, of three, over cases, lets, lambdas, sections, operators, ifs
		{"f x = g 1; g x = f x;", "f : Int -> a; g : Int -> a"},
		{"f x = g x; g x = h x; h x = if x then f x else 1;", "f : Bool -> Int; g : Bool -> Int; h : Bool -> Int"},
		{"f x = case g x of {_ -> 1}; g x = let {y = f x; z = f True} in x;", "f : Bool -> Int; g : Bool -> Bool"},
		{"f = \\x -> g x; g = \\x -> case 1 of {1 -> x; _ -> f 1};", "f : Int -> Int; g : Int -> Int"},
		{"(&) a b = f a b; f a b = g a (& b); g a h = h a;", "& : a -> b -> c; f : a -> b -> c; g : a -> (a -> b) -> b"},
		{"f x = if h x then x else x; h y = case f 1 of {z -> True}; k = h;", "f : Int -> Int; h : Int -> Bool; k : Int -> Bool"},
		{"f x = let {y z = g} in x; g x = f 1;", "f : Int -> Int; g : a -> Int"},
		{"a x = b 1; c x = a x; b x = c x; d = a 1;", "a : Int -> a; c : Int -> a; b : Int -> a; d : a"},
		// two rings, the one of which needs the other
		{"a x = b x; b x = a (c x); c x = d x; d x = c x; e = (c 1, c True);", "a : a -> b; b : a -> b; c : a -> b; d : a -> b; e : Pair a b"},
		{"c x = d x; d x = if x then 1 else c x; a x = b x + c True; b x = a (c False) + x;", "c : Bool -> Int; d : Bool -> Int; a : Int -> Int; b : Int -> Int"},
		// a ring's definitions are used at many types outside of it
		{"ev n x = od n x; od n x = if n == 0 then x else ev n x; p = (ev 1 True, od 2 3);", "ev : Int -> a -> a; od : Int -> a -> a; p : Pair Bool Int"},
		// a local of its name is not the definition
		{"f x = let {g y = y} in g x; g x = f 1 + x;", "f : a -> a; g : Int -> Int"},
		{"f g x = g x; g x = f g 1 + x;", "f : (a -> b) -> a -> b; g : Int -> Int"},
	} {
		checkTold(t, x.decls, x.want)
	}
	checkBad(t, "a x = b 1; c x = a x; b x = c x; d = a True;", api.ErrInferMismatch, "d")
}

func TestSignatures(t *testing.T) {
	for _, x := range []struct{ decls, want string }{
		{"f :: Int -> Int; f x = x; g = f;", "f : Int -> Int; g : Int -> Int"},
		{"f :: x -> y -> x; f a b = a;", "f : a -> b -> a"},
		{"f :: b -> a -> b; f a b = a; g = f 1;", "f : a -> b -> a; g : a -> Int"},
		{"x :: [a]; x = []; y :: [Int]; y = x; z :: (a, [b], ()); z = stop;", "x : List a; y : List Int; z : Triple a (List b) Unit"},
		{"f x = x; f :: Bool -> Bool;", "f : Bool -> Bool"},
		{"data T a = K; x :: T Int; x = K; y :: T a; y = K; z = K;", "x : T Int; y : T a; z : T a"},
		// within a group a signature is an instance for all
		{"f :: a -> b; f x = g x; g x = f x;", "f : a -> b; g : a -> b"},
		{"f x = g x; g :: a -> a; g x = f x;", "f : a -> a; g : a -> a"},
		{"f :: a -> a; f x = g x; g :: a -> a; g x = f x; p = (f 1, g True);", "f : a -> a; g : a -> a; p : Pair Int Bool"},
		{"f :: Int -> Int; f x = g x; g x = h x; h x = f x;", "f : Int -> Int; g : Int -> Int; h : Int -> Int"},
		{"f :: [a] -> [a]; f x = g x; g x = f x; h = g [1];", "f : List a -> List a; g : List a -> List a; h : List Int"},
		// an operator's
		{"(&) :: a -> a -> Bool; (&) x y = True; z = 1 & 2;", "& : a -> a -> Bool; z : Bool"},
	} {
		checkTold(t, x.decls, x.want)
	}
	for _, x := range []struct {
		decls string
		code  api.Errno
		name  string
	}{
		{"f :: a; f = 1;", api.ErrInferSig, "f"},
		{"f :: a -> b -> a; f x y = y;", api.ErrInferSig, "f"},
		{"f :: a -> a -> b; f x y = stop; g :: a -> b; g x = x;", api.ErrInferSig, "g"},
		{"f :: [a]; f = [1];", api.ErrInferSig, "f"},
		{"f :: (a, b) -> (b, a); f (x, y) = (x, y);", api.ErrInferSig, "f"},
		{"f :: (a -> b) -> a -> b; f g x = g (g x);", api.ErrInferSig, "f"},
		{"f :: Int; f = True;", api.ErrInferMismatch, "f"},
		{"f :: [Int]; f = 1;", api.ErrInferMismatch, "f"},
		{"f :: Int -> Int; f = 1;", api.ErrInferMismatch, "f"},
		{"f :: a -> [a]; f x = x;", api.ErrInferOccurs, "f"},
		{"data T = K; data U = K2; f :: T; f = K2;", api.ErrInferMismatch, "f"},
		// a definition that has one is used in its own group at one type too
		{"f :: a -> Int; f x = f 1 + f True;", api.ErrInferMismatch, "f"},
		{"f :: a -> Int; f x = f 1;", api.ErrInferSig, "f"},
		{"f :: a -> a; f x = g x; g :: Int -> Int; g x = f x;", api.ErrInferSig, "f"},
		{"f :: Int -> Int; f x = g x; g :: a -> a; g x = f x;", api.ErrInferSig, "g"},
		{"f :: Int -> Int; f x = g x; g :: Bool -> Int; g x = f x;", api.ErrInferMismatch, "g"},
		{"f :: a -> b; f x = g x; g :: a -> a; g x = f x;", api.ErrInferSig, "f"},
	} {
		checkBad(t, x.decls, x.code, x.name)
	}
}

// TestModules: the types are told in the order of the modules, and of their definitions' first clauses.
func TestModules(t *testing.T) {
	lib := "module Lib; data T a = K a | E; id x = x; f (K x) = x;"
	top := "module Top; import Lib; import Mid (g); import Int (T); b = (g, id 1, f (K True)); a = Lib.id; z = Int.T;"
	mid := "module Mid; import Lib (T, K); g (K x) = K (x + 1); h = Lib.K; id = 1;"
	odd := "module Int; data T = T; data List a = Nil | Cons a; f x = T; g = Nil; h = [Cons 1];"
	const fromLib = "Lib.id : a -> a; Lib.f : Lib.T a -> a; "
	const fromMid = "Mid.g : Lib.T Int -> Lib.T Int; Mid.h : a -> Lib.T a; Mid.id : Int; "
	const fromOdd = "Int.f : a -> Int.T; Int.g : Int.List a; Int.h : List (Int.List Int); "
	const fromTop = "Top.b : Triple (Lib.T Int -> Lib.T Int) Int Bool; Top.a : a -> a; Top.z : Int.T"
	for _, x := range []struct {
		texts []string
		want  string
	}{
		{[]string{lib, mid, odd, top}, fromLib + fromMid + fromOdd + fromTop},
		{[]string{top, odd, mid, lib}, fromOdd + fromLib + fromMid + fromTop},
		{[]string{top, lib, odd, mid}, fromLib + fromOdd + fromMid + fromTop},
	} {
		if got := toldAll(checkTaken(t, x.texts...)); got != x.want {
			t.Errorf("Infer(%s): %s\nwant %s", short(x.texts), got, x.want)
		}
	}
	// clauses of one definition give one type, wherever a signature stands
	l := checkTaken(t, "module M; f 0 = 1; f x = 2; z = 1; g 0 = 1; a = 1; a :: Int;")
	if got := toldAll(l); got != "M.f : Int -> Int; M.z : Int; M.g : Int -> Int; M.a : Int" {
		t.Error(got)
	}
}
