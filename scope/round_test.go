package scope_test

import (
	"strconv"
	"strings"
	"testing"

	"sloth/api"
)

// bad is a module's text behind its head, and the fault that it has.
type bad struct {
	text string
	code api.Errno
	name string
}

// checkModule: these texts, each as a module M with L (lib) beside it.
func checkModule(t *testing.T, faults []bad, good []string) {
	t.Helper()
	for _, x := range faults {
		checkBad(t, texts([]string{lib, "module M;/" + x.text}), x.code, 1, x.name)
	}
	for _, text := range good {
		checkGood(t, texts([]string{lib, "module M;/" + text}))
	}
}

// repeat makes so many pieces of one, with its number in the place of #, and a mark between each two.
func repeat(piece, mark string, times int) string {
	var l []string
	for i := range times {
		l = append(l, strings.ReplaceAll(piece, "#", strconv.Itoa(i)))
	}
	return strings.Join(l, mark)
}

// long makes a name of so many bytes that begins so.
func long(first string, bytes int) string {
	return first + strings.Repeat("x", bytes-len(first))
}

// The longest names of a module M's things, and of variables of types.
var most, above = api.MaxName - 2, api.MaxName - 1

// Round 6.
func TestItems(t *testing.T) {
	checkModule(t, []bad{
		{"import L (h);", api.ErrScopeName, "h"},
		{"import L (f, g, h, i);", api.ErrScopeName, "h"},
		{"import L (C);", api.ErrScopeName, "C"},
		{"import L (T, A, B, U, C);", api.ErrScopeName, "C"},
		{"import L ((#));", api.ErrScopeName, "#"},
		{"import L ((+));", api.ErrScopeName, "+"},
		{"import L (seq);", api.ErrScopeName, "seq"},
		{"import L (Int);", api.ErrScopeName, "Int"},
		{"import L (True);", api.ErrScopeName, "True"},
		{"import L (a);", api.ErrScopeName, "a"}, // a parameter, a local
		{"import L (L);", api.ErrScopeName, "L"},
	}, []string{"import L (f, g, T, A, B, U, (##));", "import L ();", "import L (f, f);", "import L;"})
	// Import by import, item by item.
	checkBad(t, []string{"module A; a = 1;", "module B; b = 1;", "module C; import B (b, x); import A (y, b);"}, api.ErrScopeName, 2, "x")
	checkBad(t, []string{"module A; a = 1;", "module B; b = 1;", "module C; import B (b); import A (b, y);"}, api.ErrScopeName, 2, "b")
}

// Round 7.
func TestDatas(t *testing.T) {
	params := repeat("p#", " ", api.MaxParams)
	cons := repeat("C#", "|", api.MaxCons)
	fields := repeat("Int", " ", api.MaxFields)
	big := long("v", api.MaxName+1)
	checkModule(t, []bad{
		{"data Int = A;", api.ErrScopeTwice, "Int"},
		{"data Bool = False;", api.ErrScopeTwice, "Bool"},
		{"data T = A;/data S = B;/data T = C;", api.ErrScopeTwice, "T"},
		{"data " + long("T", above) + " = A;", api.ErrBig, long("T", above)},
		{"data T " + params + " q = A;", api.ErrScopeArity, "T"},
		{"data T a a = A;", api.ErrScopeTwice, "T"},
		{"data T a b c a = A;", api.ErrScopeTwice, "T"},
		{"data T " + big + " = A;", api.ErrBig, "T"},
		{"data T a b " + big + " = A;", api.ErrBig, "T"},
		{"data T = " + cons + "|D;", api.ErrScopeArity, "T"},
		{"data T = A | True;", api.ErrScopeTwice, "True"},
		{"data T = False;", api.ErrScopeTwice, "False"},
		{"data T = A | B | A;", api.ErrScopeTwice, "A"},
		{"data T = A | B;/data S = C | B;", api.ErrScopeTwice, "B"},
		{"data T = A | " + long("C", above) + ";", api.ErrBig, long("C", above)},
		{"data T = A | B " + fields + " Int;", api.ErrScopeArity, "B"},
	}, []string{
		"data " + long("T", most) + " = A;",
		"data T " + params + " = A;",
		"data T " + long("v", api.MaxName) + " = A " + long("v", api.MaxName) + ";",
		"data T = " + cons + ";/data S = S;",
		"data T = " + long("C", most) + ";",
		"data T = B " + fields + ";",
		"data A = B;/data B = A;",
		"data T a = T a;/data S a = S a;",
		"import L;/data T = A | B;/data U = T;",
	})
	// Which comes first.
	checkModule(t, []bad{
		{"data Int " + params + " a a = True;", api.ErrScopeTwice, "Int"},
		{"data T = A;/data T " + params + " a a = True;", api.ErrScopeTwice, "T"},
		{"data " + long("T", above) + " " + params + " a a = True;", api.ErrBig, long("T", above)},
		{"data T " + params + " a a = True;", api.ErrScopeArity, "T"},
		{"data T a a " + big + " = True;", api.ErrScopeTwice, "T"},
		{"data T a " + big + " a = True;", api.ErrBig, "T"},
		{"data T a a = " + cons + "|True;", api.ErrScopeTwice, "T"},
		{"data T " + big + " = " + cons + "|True;", api.ErrBig, "T"},
		{"data T = " + cons + "|True;", api.ErrScopeArity, "T"},
		{"data T = True " + fields + " Int;", api.ErrScopeTwice, "True"},
		{"data T = A;/data S = A " + fields + " Int;", api.ErrScopeTwice, "A"},
		{"data T = " + long("C", above) + " " + fields + " Int;", api.ErrBig, long("C", above)},
		{"data T = A " + fields + " Int | True;", api.ErrScopeArity, "A"},
		{"data T = A | True;/data Int = A;", api.ErrScopeTwice, "True"},
		{"data T = A | B | A " + fields + " Int | True;", api.ErrScopeTwice, "A"},
	}, nil)
}

// The length of a module's name counts in those of its things, and nowhere else.
func TestLongModule(t *testing.T) {
	name := long("M", api.MaxName-2)
	head := "module " + name + "; "
	checkGood(t, []string{head + "data T = C; f = " + name + ".f; x :: " + name + ".T; x = " + name + ".C;"})
	checkBad(t, []string{head + "data Tt = C;"}, api.ErrBig, 0, "Tt")
	checkBad(t, []string{head + "data T = Cc;"}, api.ErrBig, 0, "Cc")
	checkBad(t, []string{head + "f1 = 1;"}, api.ErrBig, 0, "f1")
	checkBad(t, []string{head + "data Int = C;"}, api.ErrScopeTwice, 0, "Int")
	checkBad(t, []string{head + "data T = True;"}, api.ErrScopeTwice, 0, "True")
	checkBad(t, []string{head + "seq = 1;"}, api.ErrScopeTwice, 0, "seq")
	checkGood(t, []string{"module " + long("M", 2*api.MaxName) + ";", "module N; import " + long("M", 2*api.MaxName) + ";"})
	checkBad(t, []string{"module N;", "module " + long("M", api.MaxName) + "; f = 1;"}, api.ErrBig, 1, "f")
}

// Round 8, and the clauses of a let, of which the same is asked but for the names' length.
func TestClauses(t *testing.T) {
	columns := repeat("_", " ", api.MaxColumns)
	rows := repeat("f # = 1", ";", api.MaxRows)
	faults := []bad{
		{"a = 1; b = 1; a = 1;", api.ErrScopeTwice, "a"},
		{"a = 1; b = 1; c = 1; b = 1; a = 1;", api.ErrScopeTwice, "b"},
		{"a 1 = 1; a 2 = 1; b = 1; a 3 = 1;", api.ErrScopeTwice, "a"},
		{"(#) = 1; b = 1; (#) = 1;", api.ErrScopeTwice, "#"},
		{"f " + columns + " _ = 1;", api.ErrScopeArity, "f"},
		{"g = 1; f " + columns + " _ = 1;", api.ErrScopeArity, "f"},
		{"f 1 = 1; f 1 2 = 1;", api.ErrScopeArity, "f"},
		{"f 1 2 = 1; f 1 = 1;", api.ErrScopeArity, "f"},
		{"f = 1; f 1 = 1;", api.ErrScopeArity, "f"},
		{"f 1 = 1; f 2 = 1; f = 1;", api.ErrScopeArity, "f"},
		{rows + "; f _ = 1;", api.ErrScopeArity, "f"},
		{rows + "; g = 1; f _ _ = 1;", api.ErrScopeTwice, "f"},
		{"a = 1; b = 1; a _ = 1;", api.ErrScopeTwice, "a"},
		{"a = 1; b = 1; a " + columns + " _ = 1;", api.ErrScopeTwice, "a"},
	}
	for _, name := range []string{"seq", "stop", "(+)", "(-)", "(*)", "(/)", "(%)", "(==)", "(/=)", "(<)", "(<=)", "(>)", "(>=)"} {
		faults = append(faults, bad{name + " = 1;", api.ErrScopeTwice, strings.Trim(name, "()")})
		faults = append(faults, bad{"f = 1; " + name + " " + columns + " _ = 1;", api.ErrScopeTwice, strings.Trim(name, "()")})
	}
	good := []string{
		"a = 1; b = 1; c = 1;", "a 1 = 1; a 2 = 1; b 1 2 = 1; b 2 1 = 1; c = 1;",
		"f " + columns + " = 1;", rows + ";", "a = 1; a = 2; a = 3;",
		rows + "; g 1 = 1;", "g 1 2 = 1; " + rows + "; h = 1;",
	}
	for _, x := range faults {
		// The operator / stands in some of these, and no line end.
		checkBad(t, []string{"module M;" + x.text}, x.code, 0, x.name)
		checkBad(t, []string{"module M; x = 1; y = let {" + x.text + "} in nope;"}, x.code, 0, "y")
		checkBad(t, []string{"module M; x = 1; y = 1 + (\\z -> let {" + strings.TrimSuffix(x.text, ";") + "} in 1);"}, x.code, 0, "y")
	}
	for _, text := range good {
		checkGood(t, []string{"module M;" + text})
		checkGood(t, []string{"module M; y = let {" + text + "} in let {" + text + "} in 1;"})
	}
	checkModule(t, []bad{
		{long("f", above) + " = 1;", api.ErrBig, long("f", above)},
		{"g = 1;/" + long("f", above) + " " + columns + " _ = 1;", api.ErrBig, long("f", above)},
		{"(" + strings.Repeat("+", above) + ") = 1;", api.ErrBig, strings.Repeat("+", above)},
		{"f :: Nope;/data T = Nope;/f = 1;/f _ = 1;", api.ErrScopeArity, "f"},
	}, []string{
		long("f", most) + " = 1;",
		"f = let {" + long("g", 2*api.MaxName) + " = 1} in " + long("g", 2*api.MaxName) + ";",
		"f " + long("g", 2*api.MaxName) + " = " + long("g", 2*api.MaxName) + ";",
		"f = 1;/f :: Int;/f = 1;/data T = T;/f = 1;/infix 1 `f`;/f = 1;", // side by side as clauses
		"import L;/f = 1;/g = 1;/(##) = 1;",
	})
}

// Rounds 9 and 10.
func TestFixesAndSigs(t *testing.T) {
	checkModule(t, []bad{
		{"infixl 3 +;", api.ErrScopeFix, "+"},
		{"infixl 3 `seq`;", api.ErrScopeFix, "seq"},
		{"infix 3 #;", api.ErrScopeFix, "#"},
		{"import L;/infix 3 ##;", api.ErrScopeFix, "##"},
		{"infix 3 `a`, `b`;/a = 1;", api.ErrScopeFix, "b"},
		{"infix 3 `b`;/infix 3 `b`;", api.ErrScopeFix, "b"},
		{"infix 3 `a`;/a = let {b = 1} in b;/infixl 3 `b`;", api.ErrScopeFix, "b"},
		{"infix 3 `a`;/infixl 4 `b`;/infix 3 `a`;/a = 1;/b = 1;", api.ErrScopeTwice, "a"},
		{"infixl 3 `a`;/infixr 4 `a`;/a = 1;", api.ErrScopeTwice, "a"},
		{"infixl 3 !, !;/(!) = 1;", api.ErrScopeTwice, "!"},
		{"infixl 3 !, ?, !;/(!) = 1;", api.ErrScopeFix, "?"},
		{"infixl 3 !, !, ?;/(!) = 1;", api.ErrScopeTwice, "!"},
		{"f :: Int;", api.ErrScopeName, "f"},
		{"seq :: Int;", api.ErrScopeName, "seq"},
		{"(+) :: Int;", api.ErrScopeName, "+"},
		{"import L;/f :: Int;", api.ErrScopeName, "f"},
		{"f :: Int;/g :: Int;/f = g;", api.ErrScopeName, "g"},
		{"f :: Int;/g :: Int;/f :: Int;/f = g;/g = f;", api.ErrScopeTwice, "f"},
		{"f :: Nope;/f :: Nope;/f = 1;", api.ErrScopeTwice, "f"},
		{"g :: Int;/g :: Int;", api.ErrScopeName, "g"},
		{"a :: Int;/a = let {b = 1} in b;/b :: Int;", api.ErrScopeName, "b"},
	}, []string{
		"infixl 3 !, ?;/infix 4 `a`;/(!) = 1;/(?) = 1;/a = 1;",
		"(!) :: Int;/(?) :: a;/b :: Int;/(!) = 1;/(?) = 1;/b = 1;",
		"import L;/infix 3 ##, `f`;/f :: Int;/f = 1;/(##) = 1;",
	})
}

// Round 11.
func TestTypes(t *testing.T) {
	big, full := long("v", api.MaxName+1), long("v", api.MaxName)
	sig := func(s string) string { return "import L;/data S a b = S;/data D = D;/f :: " + s + ";/f = nope;" }
	field := func(s string) string {
		return "import L;/data D = D;/data S a b = S | C Int " + s + " Nope;/data E = E Nope;/f :: Nope;/f = nope;"
	}
	for _, x := range []struct {
		typ  string // as an argument
		code api.Errno
	}{
		{"Nope", api.ErrScopeName},
		{"M.Nope", api.ErrScopeName},
		{"M.U", api.ErrScopeName},
		{"L.Nope", api.ErrScopeName},
		{"L.S", api.ErrScopeName},
		{"N.T", api.ErrScopeName},
		{"False", api.ErrScopeName},
		{"A", api.ErrScopeName},
		{"T", api.ErrScopeType},
		{"(T Int Int)", api.ErrScopeType},
		{"(L.U Int)", api.ErrScopeType},
		{"S", api.ErrScopeType},
		{"(S Int)", api.ErrScopeType},
		{"(S Int Int Int)", api.ErrScopeType},
		{"(M.S Int)", api.ErrScopeType},
		{"(Int Int)", api.ErrScopeType},
		{"(Bool Bool)", api.ErrScopeType},
		{"(D a)", api.ErrScopeType},
		{"[Nope]", api.ErrScopeName},
		{"(Int, [Nope])", api.ErrScopeName},
		{"(Int -> Nope)", api.ErrScopeName},
		{"(Nope -> S)", api.ErrScopeName},
		{"(S -> Nope)", api.ErrScopeType},
		{"(Int, T, Nope)", api.ErrScopeType},
		{"(T Nope S)", api.ErrScopeType},
		{"(Nope S)", api.ErrScopeName},
		{"(S Nope T)", api.ErrScopeName},
		{"(S T Nope)", api.ErrScopeType},
		{"(S (T Nope) T)", api.ErrScopeName},
	} {
		checkModule(t, []bad{{sig(x.typ), x.code, "f"}, {field(x.typ), x.code, "S"}}, nil)
	}
	checkModule(t, []bad{
		{field("c"), api.ErrScopeType, "S"},
		{field("[(a, c)]"), api.ErrScopeType, "S"},
		{field("(c -> Nope)"), api.ErrScopeType, "S"},
		{field("(Nope -> c)"), api.ErrScopeName, "S"},
		{field("(a -> b)"), api.ErrScopeName, "S"}, // of the Nope behind it
		{field(big), api.ErrScopeType, "S"},
		{"data T a = A;/data S = C a;", api.ErrScopeType, "S"},
		{"data T a = A | B b | C Nope;", api.ErrScopeType, "T"},
		{"data T a = A | B Nope | C b;", api.ErrScopeName, "T"},
		{"data T = A;/data S = B Nope;/data R = C b;", api.ErrScopeName, "S"},
		{"data S = B Nope;/f :: T;/f = 1;/data T a = C b;", api.ErrScopeName, "S"},
		{"f :: T;/f = 1;/data T a = C b;", api.ErrScopeType, "T"},
		{sig(big), api.ErrBig, "f"},
		{sig("a -> [" + big + "] -> Nope"), api.ErrBig, "f"},
		{sig("Nope -> " + big), api.ErrScopeName, "f"},
		{sig("T " + big + " -> Nope"), api.ErrBig, "f"},
		{sig("D " + big + " -> Nope"), api.ErrScopeType, "f"},
		{"f :: Int;/g :: a -> Nope;/h :: T;/f = 1;/g = 1;/h = 1;", api.ErrScopeName, "g"},
		{"g :: T;/g = nope;/f :: Nope;/f = 1;/data T a = T a;", api.ErrScopeType, "g"},
	}, []string{
		"f :: " + full + " -> [a] -> (a, b, c);/f = 1;",
		"data T a b = C a [b] (T b a) (a -> b) (a, b, Int) () Int Bool;",
		"import L;/f :: T U -> L.T (T L.U);/f = 1;",
		"data T = C S;/data S = D T;/f :: T -> S;/f = 1;",
		"data T a = C (T (T a)) (T [T a]);",
	})
}

// P3.2.
func TestRows(t *testing.T) {
	const head = "import L;/data S = S0 | S1 Int | S2 Int Int;/"
	for _, x := range []struct {
		row  string
		code api.Errno
	}{
		{"Nope", api.ErrScopeName},
		{"M.Nope", api.ErrScopeName},
		{"L.S0", api.ErrScopeName},
		{"N.A", api.ErrScopeName},
		{"M.A", api.ErrScopeName},
		{"S", api.ErrScopeName},
		{"U", api.ErrScopeName},
		{"Int", api.ErrScopeName},
		{"S1", api.ErrScopeArity},
		{"(S0 1)", api.ErrScopeArity},
		{"(S2 1)", api.ErrScopeArity},
		{"(S2 1 1 1)", api.ErrScopeArity},
		{"(True 1)", api.ErrScopeArity},
		{"A", api.ErrScopeArity},
		{"(L.B 1)", api.ErrScopeArity},
		{"seq", api.ErrScopeTwice},
		{"(S1 stop)", api.ErrScopeTwice},
		{"x x", api.ErrScopeTwice},
		{"x y z y", api.ErrScopeTwice},
		{"(x, x)", api.ErrScopeTwice},
		{"(x, y) [z, x]", api.ErrScopeTwice},
		{"(S2 x (A x))", api.ErrScopeTwice},
		// from the left, from the outside
		{"x x Nope", api.ErrScopeTwice},
		{"x Nope x", api.ErrScopeName},
		{"S1 Nope", api.ErrScopeArity},
		{"Nope S1", api.ErrScopeName},
		{"(S1 Nope Nope)", api.ErrScopeArity},
		{"(Nope S1)", api.ErrScopeName},
		{"(S2 Nope seq)", api.ErrScopeName},
		{"(S2 seq Nope)", api.ErrScopeTwice},
		{"(S2 (S1 Nope) seq)", api.ErrScopeName},
		{"(S2 (S0 1) Nope)", api.ErrScopeArity},
		{"x [y, S1, x]", api.ErrScopeArity},
		{"x [y, x, S1]", api.ErrScopeTwice},
		{"x [y, (x, S1)] seq", api.ErrScopeTwice},
	} {
		checkModule(t, []bad{
			{head + "f " + x.row + " = nope;", x.code, "f"},
			{head + "f = \\" + x.row + " -> nope;", x.code, "f"},
			{head + "f = let {g " + x.row + " = nope; h = nope} in nope;", x.code, "f"},
			{head + "f = (\\y -> case y of {y -> y; [_, " + strings.Join(fields(x.row), ", ") + "] -> nope}) nope;", x.code, "f"},
		}, nil)
	}
	checkModule(t, nil, []string{
		head + "f x y S0 (S1 z) (S2 _ a) (A b) B True = 1;/f x _ S0 (S1 z) (M.S2 _ a) (L.A b) L.B False = 1;",
		head + "f x = \\x -> let {x = 1; y x = 2} in case x of {x -> x; (x, y) -> x};",
		"f _ _ [_, _] = 1;", "f f = 1;", "f = \\f -> f;", "import L;/f f g = f g;",
	})
}

// fields parts a row of patterns, each of which has blanks in brackets alone.
func fields(row string) []string {
	var l []string
	depth, from := 0, 0
	for i, b := range row {
		switch b {
		case '(', '[':
			depth++
		case ')', ']':
			depth--
		case ' ':
			if depth == 0 {
				l = append(l, row[from:i])
				from = i + 1
			}
		}
	}
	return append(l, row[from:])
}

// P3.3: what an expression is refused for, and what first.
func TestTerms(t *testing.T) {
	columns := repeat("_", " ", api.MaxColumns)
	rows := repeat("# -> 1", ";", api.MaxRows)
	const two, twice, arity, name = api.ErrScopeTwo, api.ErrScopeTwice, api.ErrScopeArity, api.ErrScopeName
	// two' means two things, nope and Nope nothing.
	faults := []struct {
		body string
		code api.Errno
	}{
		{"nope", name}, {"Nope", name}, {"M.nope", name}, {"M.Nope", name}, {"K.f", name}, {"K.M", name}, {"N.f", name}, {"1 . 2", name},
		{"two'", two}, {"Two", two}, {"(?)", name}, {"(!)", two},
		{"f nope two'", name}, {"f two' nope", two}, {"nope two'", name}, {"two' nope", two},
		{"1 + nope ? two'", name}, {"two' + nope", two}, {"1 ? two'", name}, {"1 ! nope", two}, {"1 `nope` two'", name}, {"1 `Two` nope", two},
		{"1 `Nope` 2", name}, {"1 `M.nope` 2", name}, {"1 `f` nope ! 2", name},
		{"(two' ?)", two}, {"(1 ? two' !)", name}, {"(1 !)", two}, {"(? two')", name}, {"(! nope)", two}, {"(+ two' ? 1)", two}, {"(`nope` two')", name},
		{"if nope then two' else 1", name}, {"if 1 then two' else nope", two}, {"if 1 then 2 else nope", name},
		{"[1, two', nope]", two}, {"(nope, two')", name}, {"(1, 2, two')", two},
		{"\\" + columns + " seq -> nope", arity}, {"\\seq -> two'", twice}, {"\\x -> nope two'", name}, {"\\x y x -> nope", twice}, {"\\Two -> nope", two},
		{"\\x -> \\" + columns + " _ -> 1", arity},
		{"let {a = nope; b = 1; a = 2} in two'", twice}, {"let {a = two'; b seq = 1} in nope", two}, {"let {a seq = two'; b = nope} in nope", twice},
		{"let {a = 1; b seq = 1} in nope", twice}, {"let {a = 1} in nope", name}, {"let {a 1 = nope; a = 1} in two'", arity},
		{"let {a = let {b = two'} in nope; seq = 1} in nope", twice}, {"let {a = let {b = two'} in nope} in nope", two},
		{"case two' of {seq -> nope}", two}, {"case 1 of {seq -> nope}", twice}, {"case 1 of {x -> nope; seq -> 1}", name}, {"case 1 of {Two -> nope}", two},
		{"case 1 of {x -> x; y -> x}", name}, {"case 1 of {x -> 1; (x, x) -> nope}", twice},
		{"case nope of {" + rows + "; seq -> two'}", arity}, {"case 1 of {" + rows + "; _ -> 1}", arity},
		{"case 1 of {_ -> case 2 of {" + rows + "; _ -> two'}; _ -> nope}", arity},
		{"(\\x -> case x of {y -> let {g z = if z then nope else two'} in g}) two'", name},
	}
	good := []string{
		"\\" + columns + " -> 1", "case 1 of {" + rows + "}", "case 1 of {x -> 1; x -> 2; (x, y) -> x}",
		"K.two' L.two' K.Two L.Two", "let {two' = 1; (!) = 2} in two' ! 1", "\\two' -> two'",
		"f (f, (f, f, 1)) [f, 2] (\\x -> x) (f +) (+ f) (if f then f else f)",
	}
	beside := []string{"module K; data Two = Two; two' = 1; (!) = 1;", "module L; data Two = Two; two' = 1; (!) = 1;"}
	for _, x := range faults {
		l := append([]string{"module M; import K; import L; e = 1; f = " + x.body + "; g = nope'; h seq = 1;"}, beside...)
		checkBad(t, l, x.code, 0, "f")
	}
	for _, body := range good {
		checkGood(t, append([]string{"module M; import K; import L; f = " + body + ";"}, beside...))
	}
}

// Round 12 goes clause by clause, and the fault's Name is the definition's, however deep it lies.
func TestBodies(t *testing.T) {
	checkModule(t, []bad{
		{"f 1 = 1;/f seq = 1;/g = nope;", api.ErrScopeTwice, "f"},
		{"f 1 = 1;/f 2 = nope;/f seq = 1;", api.ErrScopeName, "f"},
		{"f = 1;/g x x = 1;/h = nope;", api.ErrScopeTwice, "g"},
		{"f seq = nope;/f = 1;", api.ErrScopeArity, "f"},
		{"(#) = 1;/(?) = let {f = let {g = \\x -> nope} in g} in f;", api.ErrScopeName, "?"},
	}, nil)
}
