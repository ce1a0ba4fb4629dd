package scope_test

import (
	"testing"

	"sloth/api"
	"sloth/scope"
)

// The chapter's examples of answers.
func TestExamplesTold(t *testing.T) {
	for _, x := range []struct {
		texts       []string
		told, fixes string
	}{
		{nil, "", ""},
		{[]string{"module A;/import B;/a = b;/", "module B;/b = 1;/"}, "B@1; B.b = 1 | A@0; import B; A.a = B.b", ""},
		{[]string{"module A;/a = 1;/", "module B;/a = 2;/", "module C;/import A;/import B;/c = A.a;/"},
			"A@0; A.a = 1 | B@1; B.a = 2 | C@2; import A; import B; C.c = A.a", ""},
		{[]string{"module M;/data T = T Int | Int;/"}, "M@0; data M.T = M.T # or M.Int", ""},
		{[]string{"module M;/f (x : y) [z] = (x, z);/"}, "M@0; M.f (Cons 'x 'y) (Cons 'z Nil) = ((^Pair x) z)", ""},
		{[]string{"module M;/infixr 3 %%;/(%%) a b = a;/"}, "M@0; infixr 3 M.%%; M.%% 'a 'b = a", "infixr 3 M.%%"},
	} {
		checkTold(t, texts(x.texts), x.told, x.fixes)
	}
}

// The chapter's examples of faults.
func TestExamplesBad(t *testing.T) {
	for _, x := range []struct {
		texts []string
		code  api.Errno
		text  int
		name  string
	}{
		{[]string{"module M;/x = y;/"}, api.ErrScopeName, 0, "x"},
		{[]string{"module M;/x = 1;/y = 2;/x = 3;/"}, api.ErrScopeTwice, 0, "x"},
		{[]string{"module M;/f x = x;/f = 1;/"}, api.ErrScopeArity, 0, "f"},
		{[]string{"module A;/import B;/", "module B;/import A;/"}, api.ErrScopeCycle, 0, "A"},
		{[]string{"module A;/import C;/"}, api.ErrScopeModule, 0, "C"},
		{[]string{"module A;/a = 1;/", "module B;/a = 2;/", "module C;/import A;/import B;/c = a;/"}, api.ErrScopeTwo, 2, "c"},
		{[]string{"module A;/a = 1;/", "module B;/a = 2;/", "module C;/import A;/import B (b);/c = a;/"}, api.ErrScopeName, 2, "b"},
		{[]string{"module M;/data Bool = X;/"}, api.ErrScopeTwice, 0, "Bool"},
		{[]string{"module M;/data T = True;/"}, api.ErrScopeTwice, 0, "True"},
		{[]string{"module M;/data T a = C b;/"}, api.ErrScopeType, 0, "T"},
		{[]string{"module M;/f :: Int Int;/f = 1;/"}, api.ErrScopeType, 0, "f"},
		{[]string{"module M;/f x x = 1;/"}, api.ErrScopeTwice, 0, "f"},
		{[]string{"module M;/f seq = 1;/"}, api.ErrScopeTwice, 0, "f"},
		{[]string{"module M;/infixl 3 +;/"}, api.ErrScopeFix, 0, "+"},
	} {
		checkBad(t, texts(x.texts), x.code, x.text, x.name)
	}
}

// P3.4: everything that is built in, as types, constructors, patterns and values.
func TestBuiltIn(t *testing.T) {
	for _, x := range []struct{ text, told string }{
		{"f :: Int;/f = 1;", "M.f :: #; M.f = 1"},
		{"f :: Bool;/f = False;", "M.f :: Bool; M.f = ^False"},
		{"f :: [a] -> ();/f = \\l -> ();", "M.f :: (-> (List 'a) Unit); M.f = (\\'l . ^Unit)"},
		{"f :: (a, Int);/f = 1;", "M.f :: (Pair 'a #); M.f = 1"},
		{"f :: (a, b, [Bool]);/f = 1;", "M.f :: (Triple 'a 'b (List Bool)); M.f = 1"},
		{"f = (True, [], ());", "M.f = (((^Triple ^True) ^Nil) ^Unit)"},
		{"f = (:);", "M.f = ^Cons"},
		{"f = [1];", "M.f = ((^Cons 1) ^Nil)"},
		{"f = \"a\";", "M.f = ((^Cons 97) ^Nil)"},
		{"f (a : b) [] () (c, d) (e, g, h) True False = 1;", "M.f (Cons 'a 'b) Nil Unit (Pair 'c 'd) (Triple 'e 'g 'h) True False = 1"},
		{"f \"ab\" [1] = 1;", "M.f (Cons 97 (Cons 98 Nil)) (Cons 1 Nil) = 1"},
		{"f a = seq a stop;", "M.f 'a = ((seq a) stop)"},
		{"f a = a + a - a * a % a == a /= a < a <= a > a >= a;", "M.f 'a = (flat a + a - a * a % a == a /= a < a <= a > a >= a)"},
		{"f a = a `seq` a;", "M.f 'a = (flat a seq a)"},
		{"f a = (a : a);", "M.f 'a = (flat a ^Cons a)"},
	} {
		// Here / may be an operator.
		checkTold(t, []string{"module M;\n" + newLines(x.text)}, "M@0; "+x.told, "")
	}
	checkTold(t, []string{"module M;f=1/2;"}, "M@0; M.f = (flat 1 / 2)", "")
}

// newLines: / that stand behind a semicolon are line ends.
func newLines(s string) string {
	out := []byte(s)
	for i := 1; i < len(out); i++ {
		if out[i] == '/' && out[i-1] == ';' {
			out[i] = '\n'
		}
	}
	return string(out)
}

// The names that are built in under other names are a source's own to give; the three kinds have nothing to do with one another.
func TestOwnNames(t *testing.T) {
	for _, x := range []struct{ text, told string }{
		{"data List = Nil | Cons;/data Unit = Unit;/data Pair = Pair;/data Triple = Triple;/f Nil Cons = (Unit, Pair);",
			"data M.List = M.Nil or M.Cons; data M.Unit = M.Unit; data M.Pair = M.Pair; data M.Triple = M.Triple; M.f M.Nil M.Cons = ((^Pair ^M.Unit) ^M.Pair)"},
		{"data True = Int | Bool;/data False = A True;/f = Int;", "data M.True = M.Int or M.Bool; data M.False = M.A M.True; M.f = ^M.Int"},
		{"data M = M M;/m = M (M.M);/f :: M.M -> M;/f = 1;", "data M.M = M.M M.M; M.f :: (-> M.M M.M); M.m = (^M.M ^M.M); M.f = 1"},
		{"data T a b = A a | B (b -> T b a) [T a (T a b)];", "data M.T a b = M.A 'a or M.B (-> 'b (M.T 'b 'a)) (List (M.T 'a (M.T 'a 'b)))"},
		{"f = f;/g = M.g f;", "M.f = M.f; M.g = (M.g M.f)"},
		{"(.) f g = f;/(+.+) = 1;/(.+) = (.);/h = f . g +.+ f;/f = 1;/g = (M.f);",
			"M.. 'f 'g = f; M.+.+ = 1; M..+ = M..; M.h = (flat M.f M.. M.g M.+.+ M.f); M.f = 1; M.g = M.f"},
	} {
		checkTold(t, texts([]string{"module M;/" + x.text}), "M@0; "+x.told, "")
	}
}

// P3.4: the fixities beside the modules, in the order of the modules, then as they are declared.
func TestFixities(t *testing.T) {
	l := texts([]string{
		"module A;/import B;/infixl 1 !, `a`;/infix 3 ?;/(!) = 1;/(?) = 1;/a = 1;",
		"module B;/infixr 2 `b'`, !;/(!) = 1;/b' = 1;",
	})
	checkTold(t, l, "B@1; infixr 2 B.b'; infixr 2 B.!; B.! = 1; B.b' = 1 | "+
		"A@0; import B; infixl 1 A.!; infixl 1 A.a; infix 3 A.?; A.! = 1; A.? = 1; A.a = 1",
		"infixr 2 B.b'; infixr 2 B.!; infixl 1 A.!; infixl 1 A.a; infix 3 A.?")
}

// Locals, and what hides what.
func TestLocals(t *testing.T) {
	for _, x := range []struct{ body, told string }{
		{"f x = x;/x = 1;", "M.f 'x = x; M.x = 1"},
		{"f x = x;/g = x;/x = 1;", "M.f 'x = x; M.g = M.x; M.x = 1"},
		{"f f = f;/g = M.f;", "M.f 'f = f; M.g = M.f"},
		{"f x = M.x x;/x = f;", "M.f 'x = (M.x x); M.x = M.f"},
		{"f x = \\y x -> x y;", "M.f 'x = (\\'y 'x . (x y))"},
		{"f = (\\x -> x) x;/x = 1;", "M.f = ((\\'x . x) M.x); M.x = 1"},
		{"f x = case x of {(x, y) -> x y; y -> x y; _ -> y};/y = 1;",
			"M.f 'x = (case x; (Pair 'x 'y) . (x y); 'y . (x y); _ . M.y); M.y = 1"},
		{"f = case x of {x -> x};/x = 1;", "M.f = (case M.x; 'x . x); M.x = 1"},
		{"f = let {a = b; b = a} in a b c;/a = 1;/c = b;/b = 1;", "M.f = (let a = b; b = a; ((a b) M.c)); M.a = 1; M.c = M.b; M.b = 1"},
		{"f = let {g x = g x y; h = x} in g h;/x = 1;/y = 1;", "M.f = (let g 'x = ((g x) M.y); h = M.x; (g h)); M.x = 1; M.y = 1"},
		{"f = (let {x = 1} in x) x;/x = 1;", "M.f = ((let x = 1; x) M.x); M.x = 1"},
		{"f = let {x x = x; x y = x} in x;", "M.f = (let x 'x = x; x 'y = x; x)"},
		{"f x = let {x = x} in let {x = \\x -> x} in x;", "M.f 'x = (let x = x; (let x = (\\'x . x); x))"},
		{"f = let {(++) a b = a ++ b} in (++);", "M.f = (let ++ 'a 'b = (flat a ++ b); ++)"},
		{"f = let {(.) a b = a . b} in 1 . 2;/(.) = f . f;", "M.f = (let . 'a 'b = (flat a . b); (flat 1 . 2)); M.. = (flat M.f M.. M.f)"},
		{"f o = (1 `o`) (`o` 1) (`f` 1);", "M.f 'o = (((left 1 o) (right o 1)) (right M.f 1))"},
		{"f c = if c then c else f c;", "M.f 'c = (if c c (M.f c))"},
		{"f x = x y where';/y = 1;/where' = 1;", "M.f 'x = ((x M.y) M.where'); M.y = 1; M.where' = 1"},
		{"f _ _ = 1;/g (_, _) _ [_, _] = 1;", "M.f _ _ = 1; M.g (Pair _ _) _ (Cons _ (Cons _ Nil)) = 1"},
		{"f 0 x = x;/f 1 y = y;", "M.f 0 'x = x; M.f 1 'y = y"},
	} {
		checkTold(t, texts([]string{"module M;/" + x.body}), "M@0; "+x.told, "")
	}
	// No local is seen outside its place.
	for _, body := range []string{
		"f x = 1;/g = x;", "f x = 1;/f y = x;", "f = (\\x -> x) x;", "f = (let {x = 1} in x) x;", "f = case x of {x -> x};",
		"f = case 1 of {x -> x; y -> x};", "f = let {g x = x; h = x} in 1;", "f = let {g x = x} in x;", "f = let {g = h} in let {h = 1} in g;",
	} {
		l, f, err := scope.Bind(texts([]string{"module M;/" + body}))
		if fault, ok := err.(*api.Fault); !ok || fault.Code != api.ErrScopeName || l != nil || f != nil {
			t.Errorf("%s: %v %v", body, told(l), err)
		}
	}
}

const lib = "module L;/data T a = A a | B;/data U = T;/infixl 4 ##;/(##) a b = 1;/f = 1;/g = 1;/" // a module to import

// What imports list, and what they don't.
func TestImports(t *testing.T) {
	for _, x := range []struct{ text, told string }{
		{"import L;/h :: T U;/h = f g T A (##);", "import L; M.h :: (L.T L.U); M.h = ((((L.f L.g) ^L.T) ^L.A) L.##)"},
		{"import L ();/f = 1;/h = f;", "import L (); M.f = 1; M.h = M.f"},
		{"import L (f);/h = L.f f;", "import L (f); M.h = (L.f L.f)"},
		{"import L (f, f, f);/h = f;", "import L (f, f, f); M.h = L.f"},
		{"import L (T);/h :: L.T Int;/h = T;", "import L (T); M.h :: (L.T #); M.h = ^L.T"},
		{"import L (A);/h (A x) = A x;", "import L (A); M.h (L.A 'x) = (^L.A x)"},
		{"import L ((##));/h = 1 ## 2;", "import L (##); M.h = (flat 1 L.## 2)"},
		{"import L;/data T = A;/h :: T -> L.T T;/h A = f;/f = L.f L.A;",
			"import L; data M.T = M.A; M.h :: (-> M.T (L.T M.T)); M.h M.A = M.f; M.f = (L.f ^L.A)"},
		{"import L;/h f = f g L.f (L.A f);", "import L; M.h 'f = (((f L.g) L.f) (^L.A f))"},
		{"import L;/h = 1 `L.f` 2 `L.A` 3;", "import L; M.h = (flat 1 L.f 2 ^L.A 3)"},
		{"import L;/h (L.A x) = case x of {L.B -> L.B};", "import L; M.h (L.A 'x) = (case x; L.B . ^L.B)"},
	} {
		checkTold(t, texts([]string{lib, "module M;/" + x.text}),
			"L@0; data L.T a = L.A 'a or L.B; data L.U = L.T; infixl 4 L.##; L.## 'a 'b = 1; L.f = 1; L.g = 1 | M@1; "+x.told, "infixl 4 L.##")
	}
	for _, x := range []struct{ text, name string }{
		{"import L ();/h = f;", "h"},
		{"import L ();/h = L.f;", "h"},
		{"import L (f);/h = g;", "h"},
		{"import L (f);/h = L.g;", "h"},
		{"import L (f);/h = 1 ## 2;", "h"},
		{"import L (f);/h = T;", "h"},
		{"import L (f);/h :: T;/h = 1;", "h"},
		{"import L (A);/h :: A;/h = 1;", "h"},
		{"import L (A);/h = B;", "h"},
		{"import L (U);/h = U;", "h"},
		{"import L (U);/h = T;", "h"},
		{"import L (U);/data X = X (T Int);", "X"},
		{"import L (T);/h (A x) = 1;", "h"},
		{"import L (T);/h (L.A x) = 1;", "h"},
		{"h = L.f;", "h"},
		{"h = f;", "h"},
		{"h :: L.T Int;/h = 1;", "h"},
		{"import L;/h = M.f;", "h"},
		{"import L;/h = K.f;", "h"},
		{"import L;/h :: M.T;/h = 1;", "h"},
		{"import L;/h = L.h;", "h"},
		{"import L;/h = L.seq;", "h"},
		{"import L;/h = L.True;", "h"},
		{"import L;/h :: L.Int;/h = 1;", "h"},
		{"h = M.seq;", "h"},
		{"h M.True = 1;", "h"},
		{"h :: M.Bool;/h = 1;", "h"},
		{"h x = M.x;", "h"},
	} {
		checkBad(t, texts([]string{lib, "module M;/" + x.text}), api.ErrScopeName, 1, x.name)
	}
}

// A module gives its own things alone, not what it has imported.
func TestGivesItsOwn(t *testing.T) {
	l := []string{"module A;/a = 1;/data T = C;", "module B;/import A;/b = a;", "module C;/import B;/c = "}
	for _, body := range []string{"a;", "B.a;", "C;", "B.C;", "A.a;", "1;/c :: T;", "1;/c :: B.T;"} {
		checkBad(t, texts([]string{l[0], l[1], l[2] + body}), api.ErrScopeName, 2, "c")
	}
	checkBad(t, texts([]string{l[0], l[1], "module C;/import B (a);"}), api.ErrScopeName, 2, "a")
}

// A name that two imported modules give.
func TestTwo(t *testing.T) {
	const other = "module K;/data T = A Int | B;/data V = D;/f = 1;/k = 1;"
	two := func(s string) []string { return texts([]string{lib, other, "module M;/" + s}) }
	for _, x := range []struct{ text, name string }{
		{"import L;/import K;/h = f;", "h"},
		{"import L;/import K;/h = A;", "h"},
		{"import L;/import K;/h (A x) = x;", "h"},
		{"import L;/import K;/h :: T Int;/h = 1;", "h"},
		{"import L;/import K;/data X = X (T Int);", "X"},
		{"import L (f);/import K (k, f);/h = f;", "h"},
		{"import L (T);/import K (T);/h :: T;/h = 1;", "h"},
	} {
		checkBad(t, two(x.text), api.ErrScopeTwo, 2, x.name)
	}
	for _, text := range []string{
		"import L;/import K;/h = L.f K.f g k;",
		"import L;/import K;/f = 1;/h = f;",
		"import L;/import K;/h f = f;",
		"import L;/import K (k);/h = f;",
		"import L (g);/import K;/h = f g;",
		"import L (T);/import K (k);/h :: T k;/h = T;",
		"import L (T, A);/import K (T);/h = A T;",
		"import L;/import K;/h (L.A x) (K.A y) = 1;/i :: L.T Int -> K.T;/i = 1;",
		"import L;/import K;/data T = A;/h :: T;/h = A;",
	} {
		checkGood(t, two(text))
	}
	checkTold(t, texts([]string{"module K;/f = 1;", "module L;/f = 1;", "module M;/import K (f);/import L ();/g = f;"}),
		"K@0; K.f = 1 | L@1; L.f = 1 | M@2; import K (f); import L (); M.g = K.f", "")
}
