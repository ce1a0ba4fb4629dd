package infer_test

import (
	"strings"
	"testing"

	"sloth/api"
)

// P6.1: faults, which of them counts, and what it tells.

// great is a data type with a constructor whose type is above the limit.
var great = "data Great = Fits Int | Grown " + sized(api.MaxType-1) + ";"

// TestResolveFirst: the faults of Resolve, as they are, and ahead of all that types say.
func TestResolveFirst(t *testing.T) {
	bad := "module Bad; " + great + " x = 1 True;"
	for _, x := range []struct {
		texts []string
		want  api.Fault
	}{
		{make([]string, api.MaxTexts+1), api.Fault{Code: api.ErrLong, Text: -1, At: -1}},
		{[]string{bad, strings.Repeat(" ", api.MaxText+1)}, api.Fault{Code: api.ErrLong, Text: 1, At: -1}},
		{[]string{bad, "module M; x = 007;"}, api.Fault{Code: api.ErrLexNumber, Text: 1, At: 14}},
		{[]string{bad, "module M; x = " + strings.Repeat("1 ", api.MaxTokens) + ";"}, api.Fault{Code: api.ErrBig, Text: 1, At: 14 + 2*(api.MaxTokens-5)}},
		{[]string{bad, "module M; x = a + ;"}, api.Fault{Code: api.ErrSyntax, Text: 1, At: 18}},
		{[]string{bad, "module M; x = " + strings.Repeat("[", api.MaxNest) + strings.Repeat("]", api.MaxNest) + ";"}, api.Fault{Code: api.ErrNest, Text: 1, At: 10}},
		{[]string{bad, "module M; x :: " + sized(api.MaxType+1) + "; x = 1;"}, api.Fault{Code: api.ErrBig, Text: 1, At: 10}},
		{[]string{bad, "module Bad;"}, api.Fault{Code: api.ErrScopeModule, Text: 1, At: -1, Name: "Bad"}},
		{[]string{bad, "module M; import N;", "module N; import M;"}, api.Fault{Code: api.ErrScopeCycle, Text: 1, At: -1, Name: "M"}},
		{[]string{bad, "module M; x a a = a;"}, api.Fault{Code: api.ErrScopeTwice, Text: 1, At: -1, Name: "x"}},
		{[]string{bad, "module M; x = y;"}, api.Fault{Code: api.ErrScopeName, Text: 1, At: -1, Name: "x"}},
		{[]string{bad, "module M; x = 1 True; y = z;"}, api.Fault{Code: api.ErrScopeName, Text: 1, At: -1, Name: "y"}},
		{[]string{bad, "module A; x = 1;", "module B; x = 1;", "module C; import A; import B; y = x;"}, api.Fault{Code: api.ErrScopeTwo, Text: 3, At: -1, Name: "y"}},
		{[]string{bad, "module M; f (True x) = 1;"}, api.Fault{Code: api.ErrScopeArity, Text: 1, At: -1, Name: "f"}},
		{[]string{bad, "module M; f :: Int Int; f = 1;"}, api.Fault{Code: api.ErrScopeType, Text: 1, At: -1, Name: "f"}},
		{[]string{bad, "module M; infixl 3 +;"}, api.Fault{Code: api.ErrScopeFix, Text: 1, At: -1, Name: "+"}},
		{[]string{bad, "module M; x = 1 True; y = 1 == 2 == 3;"}, api.Fault{Code: api.ErrFixMix, Text: 1, At: -1, Name: "M.y"}},
		{[]string{bad, "module M; y = (1 + 2 *);"}, api.Fault{Code: api.ErrFixSection, Text: 1, At: -1, Name: "M.y"}},
		{[]string{bad, "module M; y = 1" + strings.Repeat(" + 1", 500) + ";"}, api.Fault{Code: api.ErrNest, Text: 1, At: -1, Name: "M.y"}},
	} {
		checkFault(t, x.texts, x.want)
	}
}

// TestConsSecond: a constructor whose type is above the limit, ahead of all that definitions say.
func TestConsSecond(t *testing.T) {
	fault := api.Fault{Code: api.ErrBig, At: -1, Name: "M.Grown"}
	checkFault(t, []string{"module M; x = 1 True; " + great}, fault)
	checkFault(t, []string{"module M; x :: a; x = 1; y = y y; data T = A | B; " + great + "data Greater = Greater " + sized(api.MaxType) + ";"}, fault)
	// in the order of the modules, and of their data types and constructors
	fault.Text = 1
	checkFault(t, []string{"module L; import M; " + great + "x = 1 True;", "module M; " + great}, fault)
	checkFault(t, []string{"module L; x = 1 True;", "module M; import N;" + great, "module N; x = 1 1;"}, fault)
	fault.Name = "M.C"
	big := " " + sized(api.MaxType)
	checkFault(t, []string{"module L;", "module M; data A = A | B Int | C" + big + " | D" + big + "; data E = E" + big + ";"}, fault)
	checkFault(t, []string{"module L;", "module M; data E = E | D; data T = F | C" + big + "; data A = A" + big + ";"}, fault)
	// it need not be used; one that is taken may be
	checkTold(t, "data T = K "+sized(api.MaxType-2)+"; x = 1; y (K _) = 2;", "x : Int; y : T -> Int")
}

// TestConsSize: the nodes of a constructor's type.
func TestConsSize(t *testing.T) {
	field := func(n int) string { return " " + sized(n) }
	for _, x := range []struct {
		what, before, after string
		rest                int // what the constructor's type has beside one field
	}{
		{"one field", "data T = K", ";", 2},
		{"one parameter", "data T a = K", ";", 3},
		{"six parameters", "data T a b c d e f = K", ";", 8},
		{"six parameters, of which some stand in fields", "data T a b c d e f = K a f", ";", 12},
		{"two fields", "data T = K Int", ";", 4},
		{"two fields, one of 200 nodes", "data T = K" + field(200), ";", 203},
		{"eight fields", "data T a = K a (T a) Int (a -> Int) [a] (a, a)", " Int;", 3 + 7 + 1 + 2 + 1 + 3 + 2 + 3 + 1},
	} {
		most := api.MaxType - x.rest
		for _, n := range []int{1, most - 1, most} {
			checkTaken(t, "module M; "+x.before+field(n)+x.after)
		}
		for _, n := range []int{most + 1, most + 2, api.MaxType} {
			checkBad(t, x.before+field(n)+x.after, api.ErrBig, "K")
		}
	}
	// its own type alone
	checkTold(t, "data T a b c d e f = K; x = K;", "x : T a b c d e f")
}

const (
	mismatch = "(1 True)"
	occurs   = "(\\x -> x x)"
)

// TestKinds: what is a mismatch, and what would stand within itself.
func TestKinds(t *testing.T) {
	for _, body := range []string{
		mismatch, "1 1", "True + 1", "1 + True", "if 1 then 1 else 1", "if True then 1 else True", "if True then True else 1",
		"case 1 of {True -> 1}", "case 1 of {1 -> 1; True -> 1}", "case 1 of {1 -> 1; _ -> True}",
		"[1, True]", "1 : 1", "(+ True)", "(True +)", "(`True` 1)", "(1 `seq` 2) 3", "(\\1 -> 1) True", "(\\(x, y) -> x) [1]", "(\\x y -> x + y) 1 True",
		"let {g 1 = 1; g True = 1} in 1", "let {g x = 1; g x = True} in 1", "let {g x = x + 1; h = g True} in 1", "let {g = 1} in g 1", "let {g = h; h = 1} in g 1",
		"(1, 2) 3", "[] 1", "() + 1", "\"ab\" + 1", "case (1, 2) of {(a, b, c) -> 1}", "case () of {[] -> 1}", "(\\[x, 1] -> x) [True]", "seq 1 2 3", "(== 1) True",
	} {
		checkBad(t, "f = "+body+";", api.ErrInferMismatch, "f")
	}
	for _, body := range []string{
		occurs, "\\x -> [x, [x]]", "\\x -> x : x", "let {x = [x]} in x", "let {x = (x, 1)} in 1", "let {g y = g} in g", "let {g = h; h = [g]} in 1",
		"\\x y -> [x, y, y x]", "\\x -> case x of {y : z -> [y, z]}", "\\x -> if True then x else \\y -> x", "(\\x -> (`x` x))", "\\l -> case l of {l2 : _ -> if True then l else l2}",
	} {
		checkBad(t, "f = "+body+";", api.ErrInferOccurs, "f")
	}
	checkBad(t, "f x = f;", api.ErrInferOccurs, "f")
	checkBad(t, "f = [f];", api.ErrInferOccurs, "f")
	checkBad(t, "f x = x; f y = [y];", api.ErrInferOccurs, "f")
	checkBad(t, "f 1 = 1; f True = 1;", api.ErrInferMismatch, "f")
	checkBad(t, "f x = 1; f x = True;", api.ErrInferMismatch, "f")
	checkBad(t, "data T a = K a; f (K 1) = 1; f (K True) = 1;", api.ErrInferMismatch, "f")
}

// Within a body the first of two faults counts, in the order in which constraints are laid.
func TestFirstOfABody(t *testing.T) {
	for _, x := range []string{
		"FIRST SECOND", "f FIRST SECOND", "[FIRST, SECOND]", "(FIRST, SECOND)", "FIRST : SECOND", "(1, FIRST, SECOND)",
		"if FIRST then SECOND else 1", "if True then FIRST else SECOND", "if FIRST then 1 else SECOND",
		"\\x -> (FIRST, SECOND)", "(\\x -> FIRST) SECOND", "\\x -> FIRST 1 SECOND",
		"let {y = FIRST; z = SECOND} in 1", "let {y = FIRST} in SECOND", "let {y 1 = FIRST; y True = SECOND} in 1", "let {y = 1} in (FIRST, SECOND)", "let {y = let {z = FIRST} in 1; w = SECOND} in 1",
		"case FIRST of {x -> SECOND}", "case 1 of {1 -> FIRST; _ -> SECOND}", "case FIRST of {x -> 1; y -> SECOND}", "case 1 of {x -> FIRST; True -> SECOND}",
		"(1 + FIRST) SECOND", "f (+ FIRST) SECOND",
	} {
		one := strings.NewReplacer("FIRST", mismatch, "SECOND", occurs)
		other := strings.NewReplacer("FIRST", occurs, "SECOND", mismatch)
		checkBad(t, "f x = x; g = "+one.Replace(x)+";", api.ErrInferMismatch, "g")
		checkBad(t, "f x = x; g = "+other.Replace(x)+";", api.ErrInferOccurs, "g")
	}
}

// A pair stands behind those of its parts, and ahead of those that follow it.
func TestOrderOfPairs(t *testing.T) {
	for body, code := range map[string]api.Errno{
		// the parts' pairs come ahead of the whole's
		"1 " + occurs:                                           api.ErrInferOccurs,
		"True + " + occurs:                                      api.ErrInferMismatch, // TermApp (TermApp + True): its pair comes first
		"(True + 1) " + occurs:                                  api.ErrInferMismatch,
		"\\x -> x (x x)":                                        api.ErrInferOccurs,
		"(+ " + occurs + ")":                                    api.ErrInferOccurs,
		"\\x -> (x 1, x True, x x)":                             api.ErrInferMismatch,
		"\\x -> (x 1, x x, x True)":                             api.ErrInferMismatch, // x takes Int, and is a function
		"\\x -> (x x, x 1, x True)":                             api.ErrInferOccurs,
		"if 1 then " + occurs + " else 1":                       api.ErrInferMismatch,
		"if True then 1 else (1, " + occurs + ")":               api.ErrInferOccurs,
		"\\x -> if True then x else if x then [x] else x":       api.ErrInferMismatch,
		"\\x -> if True then [x] else if True then x else True": api.ErrInferMismatch, // the inner pairs come first
		"\\x -> if True then [x] else if True then x else x":    api.ErrInferOccurs,
		"let {g x = g; h = 1 True} in 1":                        api.ErrInferOccurs,
		"let {h = 1 True; g x = g} in 1":                        api.ErrInferMismatch,
		"let {g x = g} in 1 True":                               api.ErrInferOccurs,
		"let {g 1 = [g]; g True = 2} in 1":                      api.ErrInferOccurs,
		"let {g x = 1 True; g x = [g]} in 1":                    api.ErrInferMismatch,
		"case 1 of {True -> " + occurs + "}":                    api.ErrInferMismatch,
		"case " + occurs + " of {1 -> 2}":                       api.ErrInferOccurs,
		"case 1 of {x -> " + occurs + "; True -> 1}":            api.ErrInferOccurs,
		"\\x -> case x of {1 -> x x}":                           api.ErrInferMismatch,
		"\\x -> case x x of {1 -> x + 1}":                       api.ErrInferOccurs,
		"\\x -> case x of {y -> y y; 1 -> 2}":                   api.ErrInferOccurs,
		"\\x -> case x of {1 -> 2; y -> y y}":                   api.ErrInferMismatch,
	} {
		checkBad(t, "f = "+body+";", code, "f")
	}
	// a definition's: its signature, then clause by clause the patterns, the body, the whole
	for decls, code := range map[string]api.Errno{
		"f :: Int; f = (\\x -> x x) 1;":               api.ErrInferOccurs,
		"f :: Int -> Int; f x = (x 1, \\y -> y y);":   api.ErrInferOccurs, // x is an Int only behind the body
		"f :: Int; f = (f 1, \\y -> y y);":            api.ErrInferMismatch,
		"f = (f 1, \\y -> y y); f :: Int;":            api.ErrInferMismatch,
		"f x = [f]; f 1 = 1 True;":                    api.ErrInferOccurs,
		"f 1 = 1 True; f x = [f];":                    api.ErrInferMismatch,
		"data T = K Int; f (K 1) = 1; f (K x) = x x;": api.ErrInferMismatch,
		"data T a = K a a; f (K 1 x) = x x;":          api.ErrInferMismatch,
		"f (x : y) = (x x, y + 1);":                   api.ErrInferOccurs,
		"f (x : y) = (y + 1, x x);":                   api.ErrInferMismatch,
	} {
		checkBad(t, decls, code, "f")
	}
}

// TestNames: the fault names the definition among whose constraints the pair stands.
func TestNames(t *testing.T) {
	for _, x := range []struct {
		decls string
		code  api.Errno
		name  string
	}{
		{"f x = g x + 1; g y = if f y == 0 then True else False;", api.ErrInferMismatch, "g"},
		{"g y = if f y == 0 then True else False; f x = g x + 1;", api.ErrInferMismatch, "f"},
		{"f x = g x + 1; g y = case f y of {_ -> h y}; h z = if g z then True else False;", api.ErrInferMismatch, "h"},
		{"f x = g x; g y = [f y]; h = f;", api.ErrInferOccurs, "g"},
		{"g y = [f y]; f x = g x; h = f;", api.ErrInferOccurs, "f"},
		{"f = g; g = h; h = (f, 1); i = f;", api.ErrInferOccurs, "h"},
		{"f x = g 1; g True = f 1;", api.ErrInferMismatch, "g"},
		{"g True = f 1; f x = g 1;", api.ErrInferMismatch, "f"},
		{"f x = g 1; g :: Bool -> a; g y = f 1;", api.ErrInferMismatch, "g"},
		{"a = 1; b = let {c = let {d = 1 True} in 2} in 3; e = 4;", api.ErrInferMismatch, "b"},
		{"a = 1; b 1 = 1; b 2 = 2; b 3 = True; c = 1 1;", api.ErrInferMismatch, "b"},
		{"(&) a b = a & (b + 1 2);", api.ErrInferMismatch, "&"},
		// the last pair of a definition, and the first of the next
		{"a = b 1; b = 1;", api.ErrInferMismatch, "a"},
		{"a 1 = b 1; a x = True; b x = a x + 1; c = 1;", api.ErrInferMismatch, "b"},
		{"a x = b (a x); b :: Int; b = a 1;", api.ErrInferMismatch, "b"},
		{"a x = b 1 : c; b x = a x; c = b 1;", api.ErrInferOccurs, "b"},
	} {
		checkBad(t, x.decls, x.code, x.name)
	}
	// with the number of the module's text
	for at, texts := range [][]string{
		{"module M; import N; f = 1; x = id True + 1;", "module N; id x = x;", "module O;"},
		{"module N; id x = x;", "module M; import N; f = 1; x = id True + 1;"},
		{"module O;", "module N; id x = x;", "module M; import N; f = 1; x = id True + 1;"},
	} {
		checkFault(t, texts, api.Fault{Code: api.ErrInferMismatch, Text: at, At: -1, Name: "M.x"})
		for i := range texts {
			texts[i] = strings.Replace(texts[i], "x = id True + 1;", "x :: a -> b; x y = id y;", 1)
		}
		checkFault(t, texts, api.Fault{Code: api.ErrInferSig, Text: at, At: -1, Name: "M.x"})
		for i := range texts {
			texts[i] = strings.Replace(texts[i], "x :: a -> b; x y = id y;", "x y = id (y y);", 1)
		}
		checkFault(t, texts, api.Fault{Code: api.ErrInferOccurs, Text: at, At: -1, Name: "M.x"})
	}
}

// TestGroupOrder: the groups in their order: each definition but those that are needed has a fault, and the first group's is told.
func TestGroupOrder(t *testing.T) {
	for _, x := range []struct{ decls, first string }{
		{"a = BAD; b = BAD;", "a"},
		{"a = (b, BAD); b = BAD;", "b"},
		{"a = (c, BAD); b = BAD; c = BAD;", "b"},
		{"a = (c, BAD); c = BAD; b = BAD;", "c"},
		{"a = (c, BAD); b = 1; c = BAD; d = BAD;", "c"},
		{"a = (d, BAD); b = (c, BAD); c = 1; d = BAD;", "b"},
		{"a = (d, BAD); b = (c, BAD); d = 1; c = BAD;", "a"},
		{"a = (d, BAD); b = (d, BAD); c = BAD; d = 1;", "c"},
		{"a = (c, BAD); b = (c, BAD); c = d; d = 1; e = BAD;", "a"},
		{"a = (b, BAD); b = c; c = d; d = e; e = BAD; f = BAD;", "e"},
		{"a = (e, BAD); e = d; d = c; c = b; b = BAD; f = BAD;", "b"},
		// a ring has the place of its first definition, and waits for what any of them needs
		{"a = b; b = c; c = d a; d x = BAD;", "d"},
		{"a x = b x; c = BAD; b x = (a, BAD);", "b"},
		{"a x = b x; c = BAD; b x = (a, c, BAD);", "c"},
		{"a x = b x; c = 1; d = BAD; b x = (a, c, BAD);", "b"},
		{"a x = b x; c = 1; b x = (a, c, BAD); d = BAD;", "b"},
		{"z = (b 1, BAD); a x = b x; y = BAD; b x = if True then x else a x;", "z"},
		{"z = (b 1, BAD); a x = b x; b x = if True then x else a x; y = BAD;", "z"},
		{"p x = (q x, BAD); q x = p x; r x = (s x, BAD); s x = r x;", "p"},
		{"p x = (q x, r x, BAD); q x = p x; r x = (s x, BAD); s x = r x;", "r"},
		// what needs itself waits for nothing
		{"a x = (a x, BAD); b = BAD;", "a"},
		// a name as often as one likes
		{"a = (b, b, b); b = [c, c]; c = (1, BAD); d = BAD;", "c"},
		{"a = (b, b, (b, BAD)); b = 1; c = BAD;", "a"},
		// a local of that name is not the definition
		{"a = let {b = 1} in (b, BAD); b = BAD;", "a"},
		{"a b = (b, BAD); b = BAD;", "a"},
		{"a = \\b -> (b, BAD); b = BAD;", "a"},
		{"a = case 1 of {b -> (b, BAD)}; b = BAD;", "a"},
		{"a = (let {b = 1} in b, b, BAD); b = BAD;", "b"},
		{"a = (case 1 of {b -> b; _ -> b}, BAD); b = BAD;", "b"},
		// wherever it stands
		{"a = (\\x -> b, BAD); b = BAD;", "b"},
		{"a = (let {c = b} in 1, BAD); b = BAD;", "b"},
		{"a = (let {c = 1} in b, BAD); b = BAD;", "b"},
		{"a = (if b then 1 else 1, BAD); b = BAD;", "b"},
		{"a = (if True then 1 else b, BAD); b = BAD;", "b"},
		{"a = (case b of {_ -> 1}, BAD); b = BAD;", "b"},
		{"a = (case 1 of {1 -> 1; _ -> b}, BAD); b = BAD;", "b"},
		{"a = ((+ b), BAD); b = BAD;", "b"},
		{"a = ((`b` 1), BAD); b = BAD;", "b"},
		{"a = (1 `b` 2, BAD); b = BAD;", "b"},
		{"a 1 = BAD; a 2 = b; b = BAD;", "b"},
		{"a = M.b BAD; b = BAD;", "b"},
	} {
		checkBad(t, strings.ReplaceAll(x.decls, "BAD", "1 True"), api.ErrInferMismatch, x.first)
	}
	// module by module, since a module's definitions stand ahead of those of the next
	texts := []string{"module A; a = 1 1;", "module B; b = 1 1;", "module C; import D; c = 1 1;", "module D; d = D.e; e = 1 1;"}
	checkFault(t, texts, api.Fault{Code: api.ErrInferMismatch, Text: 0, At: -1, Name: "A.a"})
	checkFault(t, texts[1:], api.Fault{Code: api.ErrInferMismatch, Text: 0, At: -1, Name: "B.b"})
	checkFault(t, texts[2:], api.Fault{Code: api.ErrInferMismatch, Text: 1, At: -1, Name: "D.e"})
}

// TestOrderOfThree: of a group its constraints' fault comes ahead of its signatures', of two groups all of the first one's.
func TestOrderOfThree(t *testing.T) {
	for _, x := range []struct {
		decls string
		code  api.Errno
		name  string
	}{
		{"a :: a; a = 1; b = 1 True;", api.ErrInferSig, "a"},
		{"b = 1 True; a :: a; a = 1;", api.ErrInferMismatch, "b"},
		{"a :: a; a = b; b = 1 True;", api.ErrInferMismatch, "b"},
		{"a :: x -> y; a x = b x; b x = (a x, 1 True);", api.ErrInferMismatch, "b"},
		{"a :: x -> y; a x = b x; b x = [a x];", api.ErrInferOccurs, "b"},
		{"a :: x -> y; a x = b x; b x = a (x + 1) + 1;", api.ErrInferSig, "a"},
		// definition by definition
		{"a :: x -> x; a x = b x; b :: y -> y; b x = a (x + 1);", api.ErrInferSig, "a"},
		{"b :: y -> y; b x = a (x + 1); a :: x -> x; a x = b x;", api.ErrInferSig, "b"},
		{"a x = b x; b :: y -> y; b x = c x; c :: z -> z; c x = a (x + 1);", api.ErrInferSig, "b"},
		{"c :: y; b :: y; a :: y; a = 1; b = 2; c = 3;", api.ErrInferSig, "a"},
	} {
		checkBad(t, x.decls, x.code, x.name)
	}
	// the fault of an earlier group counts ahead of whatever is too great later, and the other way round
	checkBad(t, "x = 1 True; y :: "+sized(400)+"; y = stop; z = (y, y);", api.ErrInferMismatch, "x")
	checkBad(t, "y :: "+sized(400)+"; y = stop; z = (y, y); x = 1 True;", api.ErrBig, "z")
	for bad, code := range map[string]api.Errno{"x = 1 True;": api.ErrInferMismatch, "x = \\y -> y y;": api.ErrInferOccurs, "x :: a; x = 1;": api.ErrInferSig} {
		checkFault(t, []string{"module A; import B; z = 1 2;", "module B; " + bad}, api.Fault{Code: code, Text: 1, At: -1, Name: "B.x"})
	}
}
