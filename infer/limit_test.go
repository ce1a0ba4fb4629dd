package infer_test

import (
	"strings"
	"testing"

	"sloth/api"
)

// P6.1: what is too great.

// TestTypeSize: types of MaxType nodes, and of one more. y stands for something whose type has so many nodes beside the rest.
func TestTypeSize(t *testing.T) {
	for _, x := range []struct {
		what, decls, first string
		rest               int
	}{
		{"a function's", "f _ = y;", "f", 2},
		{"a function's, of two", "f _ _ = y;", "f", 4},
		{"a variable alone", "f = y;", "f", 0},
		{"an expression's", "f = if True then y else stop;", "f", 0},
		{"what it is given to", "f = seq y 1;", "f", 4},
		{"a lambda's", "f = case \\x -> y of {_ -> 1};", "f", 2},
		{"a pattern's", "f = case 1 of {_ -> case y of {x -> 1}};", "f", 0},
		{"a section's operator's", "(&) a b = 1; f = (& y);", "f", 4},
		{"a section's", "(&) a b = stop; f = case (& 1) of {g -> case g 1 of {h -> if True then h else y}};", "f", 4},
		{"a local's", "f = let {g x = y} in 1;", "f", 2},
		{"a local's, of two clauses", "f = let {g x z = stop; g _ _ = y} in 1;", "f", 4},
		{"what is needed of it alone", "g = f; f _ = y;", "f", 2},
		{"a group's first definition", "g = case f of {_ -> 1}; f _ = case g of {1 -> y};", "g", 2},
		{"a group's first definition, where another one comes first", "h = g; g = case f of {_ -> 1}; f _ = case g of {1 -> y}; i = f;", "g", 2},
	} {
		before := func(n int) string { return "y :: " + sized(n) + "; y = stop; " }
		most := api.MaxType - x.rest
		for _, n := range []int{1, 2, most - 1, most} {
			checkTaken(t, "module M; "+before(n)+x.decls)
		}
		if x.rest == 0 {
			continue // no signature is greater
		}
		for _, n := range []int{most + 1, most + 2, api.MaxType} {
			checkBad(t, before(n)+x.decls, api.ErrBig, x.first)
		}
	}
	l := checkTaken(t, "module M; y :: "+sized(498)+"; y = stop; f _ = y; z = f;")
	if len(l) != 3 || nodes(l[1].Type) != api.MaxType || nodes(l[2].Type) != api.MaxType {
		t.Error("not of MaxType nodes:", toldAll(l))
	}
}

// TestGrowth: types that double from definition to definition, from local to local, from clause to clause.
func TestGrowth(t *testing.T) {
	// of one node q0 makes 3, q1 7, q2 31, q3 511
	checkBad(t, "q0 x = (x, x);"+numbers(9, "q$ x = q# (q# x);"), api.ErrBig, "q3")
	checkTaken(t, "module M; q0 x = (x, x);"+numbers(2, "q$ x = q# (q# x);"))
	checkBad(t, "x0 = 1;"+numbers(9, "x$ = (x#, x#);"), api.ErrBig, "x7")
	checkTaken(t, "module M; x0 = 1;"+numbers(6, "x$ = (x#, x#);"))
	checkBad(t, "f x0 = let {"+numbers(7, "x$ = (x#, x#);")+"} in 1;", api.ErrBig, "f")
	checkTaken(t, "module M; f x0 = let {"+numbers(6, "x$ = (x#, x#);")+"} in 1;")
	checkBad(t, "f x0 = let {"+numbers(1500, "x$ = (x#, x#);")+"} in 1;", api.ErrBig, "f")
	checkBad(t, "f x1500 = let {"+numbers(1500, "x# = (x$, x$);")+"} in 1;", api.ErrBig, "f")
	checkBad(t, "x0 = 1;"+numbers(1500, "x$ = (x#, x#);"), api.ErrBig, "x7")
	// functions of more and more
	checkTaken(t, "module M; f x0 = "+numbers(248, "\\x$ -> ")+"1;")
	checkBad(t, "f x0 = "+numbers(249, "\\x$ -> ")+"1;", api.ErrBig, "f")
	checkTaken(t, "module M; f x0 = "+numbers(165, "[")+"x0"+strings.Repeat("]", 165)+";")
	checkBad(t, "f x0 = "+numbers(166, "[")+"x0"+strings.Repeat("]", 166)+";", api.ErrBig, "f")
	// what stands in another module, and is too great only there
	texts := []string{"module B; import A; z = 1; y = seq A.x 1;", "module A; x :: " + sized(497) + "; x = stop;"}
	checkFault(t, texts, api.Fault{Code: api.ErrBig, Text: 0, At: -1, Name: "B.y"})
}

// TestBigLast: of a group, what does not agree comes ahead of what is too great; that comes ahead of the signatures.
func TestBigLast(t *testing.T) {
	y := "y :: " + sized(497) + "; y = stop; "
	checkBad(t, y+"x = seq y 1;", api.ErrBig, "x")
	checkBad(t, y+"x = seq y 1 + True;", api.ErrInferMismatch, "x")
	checkBad(t, y+"x = (seq y 1, z); z = (1 True, x);", api.ErrInferMismatch, "z")
	checkBad(t, y+"x = (seq y 1, z); z = (\\x -> x x, x);", api.ErrInferOccurs, "z")
	checkBad(t, y+"x :: a; x = seq y 1;", api.ErrBig, "x")
	checkBad(t, y+"z :: a; z = 1; x = seq y 1;", api.ErrInferSig, "z")
	checkBad(t, y+"w = case x of {_ -> 1}; x :: a; x = case w of {_ -> seq y 1};", api.ErrBig, "w")
}

// strings of n letters in so many clauses: each has 4 n + 2 constraints.
func spelled(n, clauses int) string {
	return strings.Repeat("x = \""+strings.Repeat("a", n)+"\";", clauses)
}

// TestManyConstraints: a group may have MaxCore constraints.
func TestManyConstraints(t *testing.T) {
	t.Parallel()
	full := spelled(900, 27) + spelled(686, 1)
	if 27*(4*900+2)+4*686+2 != api.MaxCore {
		t.Fatal("the test counts wrong")
	}
	checkTold(t, full, "x : List Int")
	checkBad(t, full+"x :: [Int];", api.ErrBig, "x")
	checkBad(t, full+"x = \"\";", api.ErrBig, "x")
	checkBad(t, full+"x = [True];", api.ErrBig, "x")
	checkBad(t, spelled(900, 27)+spelled(685, 1)+"x = [True];", api.ErrBig, "x")
	checkTold(t, spelled(900, 27)+spelled(685, 1)+"x = \"\"; x :: [Int];", "x : List Int")
	checkBad(t, spelled(900, 27)+spelled(685, 1)+"x = True;", api.ErrInferMismatch, "x")
	// what other groups have does not count
	checkTold(t, full+"y = \"a\"; z = x; w = 1;", "x : List Int; y : List Int; z : List Int; w : Int")
	checkBad(t, "y = x; v = 1; "+full+"z = 1 True;", api.ErrInferMismatch, "z")
	// of a group the first definition is named
	checkBad(t, "v = 1; y = x;"+full+"x = y;", api.ErrBig, "y")
	checkBad(t, "v = 1; y :: [Bool]; y = x;"+full+"x = y;", api.ErrBig, "y")
	checkBad(t, "z = True + 1; y = x;"+full+"x = y;", api.ErrInferMismatch, "z")
}
