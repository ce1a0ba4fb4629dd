package types_test

import (
	"fmt"
	"strings"
	"testing"

	"sloth/api"
	"sloth/types"
)

// TestUnify: P5.1, where all pairs agree.
func TestUnify(t *testing.T) {
	for _, x := range []struct{ pairs, want string }{
		// the chapter's examples
		{"(a -> Int) = (Bool -> b)", "a Bool; b Int"},
		{"", ""},
		{"b = a", "b a"},
		{"a = b", "b a"},
		{"(c -> b) = (b -> a)", "b a; c a"},
		{"a = a", ""},
		{"(Pair a a) = (Pair (List b) c)", "a (List b); c (List b)"},
		// one of each kind
		{"Int = Int; Bool = Bool; (a -> Int) = (a -> Int); (M.T a b) = (M.T a b)", ""},
		{"a = Int", "a Int"},
		{"Bool = a", "a Bool"},
		{"a = (b -> c)", "a (b -> c)"},
		{"(T a b c d e f) = (T b c d e f Int)", "a Int; b Int; c Int; d Int; e Int; f Int"},
		// what is known ahead, and what comes to be known behind
		{"(a -> a) = (b -> (List c)); c = Int", "a (List Int); b (List Int); c Int"},
		{"c = Int; (a -> a) = (b -> (List c))", "a (List Int); b (List Int); c Int"},
		{"a = (Pair b b); b = (List c); c = (d -> Int); d = Bool", "a (Pair (List (Bool -> Int)) (List (Bool -> Int))); b (List (Bool -> Int)); c (Bool -> Int); d Bool"},
		{"a = (List b); a = (List c); c = d", "a (List b); c b; d b"},
		{"a = (List b); c = (List d); c = a; d = Int", "a (List Int); b Int; c (List Int); d Int"},
		// of variables that are made one the least name stays, by bytes, however they come to be one
		{"c = b; b = a", "b a; c a"},
		{"a = b; b = c", "b a; c a"},
		{"b = c; a = c", "b a; c a"},
		{"d = c; b = a; c = b", "b a; c a; d a"},
		{"aa = a; a = aB; aB = a'; a1 = a_; a_ = a'", "a' a; a1 a; aB a; a_ a; aa a"},
		{"b = B", "b B"},
		{"z = (List b); z = (List a); y = b", "b a; y a; z (List a)"},
		{"(a10 -> a9) = (a9 -> a2)", "a2 a10; a9 a10"},
		{"a = b; b = Int", "a Int; b Int"},
		// a variable of the same name as before stands for what it stood for
		{"a = b; b = a; a = b", "b a"},
		{"a = (List a1); (List a1) = a", "a (List a1)"},
		{"a = (List b); b = b; a = (List b)", "a (List b)"},
		// the names of data types and those of variables are no kin; a module's part counts
		{"(a -> M.T) = (M.T -> b)", "a M.T; b M.T"},
		{"a = Int.Int; b = M.Int", "a Int.Int; b M.Int"},
	} {
		checkUnify(t, pairs(t, x.pairs), x.want)
	}
}

// TestRefused: P5.1: the first error, with the number of its pair.
func TestRefused(t *testing.T) {
	for _, x := range []struct {
		pairs string
		at    int
		code  api.Errno
	}{
		// the chapter's examples
		{"a = Int; a = Bool", 1, api.ErrTypesMismatch},
		{"a = (List a)", 0, api.ErrTypesOccurs},
		{"a = b; b = (a -> Int)", 1, api.ErrTypesOccurs},
		{"(a -> Int) = ((List a) -> Bool)", 0, api.ErrTypesOccurs},
		// Kinds, Names and numbers of Args
		{"Int = Bool", 0, api.ErrTypesMismatch},
		{"Int = (a -> b)", 0, api.ErrTypesMismatch},
		{"(a -> b) = (Fun a b)", 0, api.ErrTypesMismatch},
		{"Bool = M.Bool", 0, api.ErrTypesMismatch},
		{"(T a) = (T a b)", 0, api.ErrTypesMismatch},
		{"(T a) = T", 0, api.ErrTypesMismatch},
		{"(T a b) = (U a b)", 0, api.ErrTypesMismatch},
		{"(a -> b) = (Int -> Int); a = b; (T b) = (T Bool)", 2, api.ErrTypesMismatch},
		// within itself, on either side, near and by a long way
		{"(List a) = a", 0, api.ErrTypesOccurs},
		{"a = (Int -> (Int -> (T Int (List a))))", 0, api.ErrTypesOccurs},
		{"x' = (y_ -> z9); z9 = Int; y_ = x'", 2, api.ErrTypesOccurs},
		{"a = (List b); b = (List c); c = (List d); d = (List a)", 3, api.ErrTypesOccurs},
		{"d = (List a); c = (List d); b = (List c); a = (List b)", 3, api.ErrTypesOccurs},
		{"a = b; (List b) = a", 1, api.ErrTypesOccurs},
		{"b = (List a); c = a; d = c; d = b", 3, api.ErrTypesOccurs},
		{"(a -> b) = ((List b) -> (List a))", 0, api.ErrTypesOccurs},
		{"a = (List b); c = (List a); b = c", 2, api.ErrTypesOccurs},
		// what is no variable is within the other: its Args say it
		{"a = (P b c); b = (P d e); a = b", 2, api.ErrTypesOccurs},
		{"a = (P b c); b = (P d Int); c = Bool; a = b", 3, api.ErrTypesOccurs},
		{"a = (P (P d Int) Bool); b = (P d Int); a = b", 2, api.ErrTypesOccurs},
		{"a = (P c (P d Int)); b = (P d Int); c = Int; d = Bool; a = b", 4, api.ErrTypesMismatch},
		// the left ones first, the first pair first
		{"(T Int a) = (T Bool (List a))", 0, api.ErrTypesMismatch},
		{"(T a Int) = (T (List a) Bool)", 0, api.ErrTypesOccurs},
		{"(T (U a Int) Int) = (T (U (List a) Bool) Bool)", 0, api.ErrTypesOccurs},
		{"(T a (List a) b) = (T b b Int)", 0, api.ErrTypesOccurs},
		{"(T a b (List a)) = (T Int Bool b)", 0, api.ErrTypesMismatch},
		{"Int = Int; Int = Bool; a = (List a)", 1, api.ErrTypesMismatch},
		{"Int = Int; a = (List a); Int = Bool", 1, api.ErrTypesOccurs},
	} {
		checkRefused(t, pairs(t, x.pairs), x.at, x.code)
	}
}

// doubling: name1 stands for two of name2, and so on: the first one has 2^(n+1) - 1 nodes, worked out.
func doubling(name string, n int) []api.Pair {
	var l []api.Pair
	for i := 1; i <= n; i++ {
		l = append(l, api.Pair{A: numbered(name, i), B: data("Pair", numbered(name, i+1), numbered(name, i+1))})
	}
	return l
}

func backwards(l []api.Pair) []api.Pair {
	var out []api.Pair
	for i := range l {
		out = append(out, l[len(l)-1-i])
	}
	return out
}

// TestUnifyBig: P5.1 and P5.10: types that are greater than may be, worked out.
func TestUnifyBig(t *testing.T) {
	eight := doubling("a", 9)
	eight[8].B = data("Pair", variable("b"), variable("b"))
	checkRefused(t, eight, 9, api.ErrBig)
	for _, n := range []int{8, 9, 60, 2000} {
		checkRefused(t, doubling("a", n), n, api.ErrBig)
		checkRefused(t, backwards(doubling("a", n)), n, api.ErrBig)
	}
	if got, _, code := types.Unify(doubling("a", 7)); code != api.OK || len(got) != 7 || strings.Count(told(got[0].Type), "Pair") != 127 {
		t.Errorf("255 nodes: %d Bounds, %v", len(got), code)
	}
	// what is wrong comes ahead of what is too great
	for _, n := range []int{60, 1000} {
		l := doubling("a", n)
		checkRefused(t, append(l[:n:n], api.Pair{A: numbered("a", 1), B: number}), n, api.ErrTypesMismatch)
		checkRefused(t, append(l[:n:n], api.Pair{A: numbered("a", n+1), B: data("List", numbered("a", 1))}), n, api.ErrTypesOccurs)
		checkRefused(t, append(l[:n:n], api.Pair{A: numbered("a", n+1), B: data("List", numbered("a", n))}), n, api.ErrTypesOccurs)
		checkRefused(t, append(l[:n:n], api.Pair{A: number, B: number}), n+1, api.ErrBig)
	}
}

// TestUnifySize: P5.1: MaxType nodes of what a variable stands for, and one more.
func TestUnifySize(t *testing.T) {
	for _, nodes := range []int{api.MaxType - 1, api.MaxType} {
		whole := row(nodes)
		checkUnify(t, []api.Pair{{A: variable("a"), B: whole}}, "a "+told(whole))
		inner := row(nodes - 2)
		checkUnify(t, []api.Pair{{A: variable("b"), B: fun(number, variable("a"))}, {A: variable("a"), B: inner}}, "a "+told(inner)+"; b (Int -> "+told(inner)+")")
	}
	for _, last := range []api.Type{fun(number, variable("a")), fun(variable("a"), variable("c"))} {
		l := []api.Pair{{A: variable("a"), B: row(api.MaxType - 1)}, {A: variable("b"), B: last}, {A: number, B: number}}
		checkRefused(t, l, 3, api.ErrBig)
		checkRefused(t, backwards(l), 3, api.ErrBig)
	}
	// wide and deep: variables share, nobody counts what no variable stands for
	deep := variable("z")
	for range api.MaxType - 1 {
		deep = data("List", deep)
	}
	checkUnify(t, []api.Pair{{A: variable("a"), B: deep}}, "a "+told(deep))
	checkRefused(t, []api.Pair{{A: variable("a"), B: deep}, {A: variable("z"), B: data("List", variable("y"))}}, 2, api.ErrBig)
	checkUnify(t, []api.Pair{{A: deep, B: deep}}, "")
	half, a, b := row(240), variable("a"), variable("b")
	checkUnify(t, []api.Pair{{A: a, B: half}, {A: data("T", a, a, a), B: data("T", b, b, b)}}, "a "+told(half)+"; b "+told(half))
}

// TestUnifyLimits: P5.1: MaxCore pairs and one more; the length comes first of all.
func TestUnifyLimits(t *testing.T) {
	l := make([]api.Pair, api.MaxCore+1)
	for i := range l {
		l[i] = api.Pair{A: numbered("v", i), B: number}
	}
	got, at, code := types.Unify(l[:api.MaxCore])
	if code != api.OK || at != 0 || len(got) != api.MaxCore {
		t.Errorf("MaxCore pairs: %d Bounds, %d, %v", len(got), at, code)
	}
	checkRefused(t, l, 0, api.ErrLong)
	l[3].A = api.Type{}
	checkRefused(t, l, 0, api.ErrLong)
	checkRefused(t, l[:api.MaxCore], 3, api.ErrTypesForm)
	l[3].A = data("T")
	l[2].B = data("List", data("T"))
	checkRefused(t, l[:api.MaxCore], 3, api.ErrTypesMismatch)
}

// TestUnifyWrong: P5.1: the first type that is wrong, pair by pair, A ahead of B, comes ahead of what does not agree.
func TestUnifyWrong(t *testing.T) {
	form, big := data("Int"), row(api.MaxType+1)
	good := api.Pair{A: variable("a"), B: number}
	bad := api.Pair{A: number, B: data("Bool")}
	for _, x := range []struct {
		l    []api.Pair
		at   int
		code api.Errno
	}{
		{[]api.Pair{{A: number, B: form}}, 0, api.ErrTypesForm},
		{[]api.Pair{{A: variable("a"), B: api.Type{Kind: api.TyFun, Args: []api.Type{number}}}}, 0, api.ErrTypesForm},
		{[]api.Pair{{A: form, B: number}}, 0, api.ErrTypesForm},
		{[]api.Pair{{A: form, B: big}}, 0, api.ErrTypesForm},
		{[]api.Pair{{A: big, B: form}}, 0, api.ErrBig},
		{[]api.Pair{{A: big, B: big}}, 0, api.ErrBig},
		{[]api.Pair{good, good, {A: number, B: big}, {A: form, B: form}}, 2, api.ErrBig},
		{[]api.Pair{good, {A: form, B: number}, {A: big, B: number}}, 1, api.ErrTypesForm},
		{[]api.Pair{bad, good, {A: number, B: form}}, 2, api.ErrTypesForm},
		{[]api.Pair{bad, good, {A: big, B: number}}, 2, api.ErrBig},
		{[]api.Pair{{A: data("T", form), B: number}}, 0, api.ErrTypesForm},
		{[]api.Pair{{A: fun(big, form), B: number}}, 0, api.ErrTypesForm},
		{[]api.Pair{{A: number, B: fun(number, fun(big, number))}}, 0, api.ErrBig},
	} {
		checkRefused(t, x.l, x.at, x.code)
	}
	checkUnify(t, []api.Pair{{A: variable("a"), B: row(api.MaxType)}, {A: row(api.MaxType), B: row(api.MaxType)}}, "a "+told(row(api.MaxType)))
}

// TestUnifyLong: P5.1 and W1: rings and chains over many pairs, in either order.
func TestUnifyLong(t *testing.T) {
	const n = 20000
	var chain []api.Pair
	for i := range n {
		chain = append(chain, api.Pair{A: numbered("v", 100000+i), B: data("List", numbered("v", 100001+i))})
	}
	ring := api.Pair{A: data("List", numbered("v", 100000)), B: numbered("v", 100000+n)}
	for _, l := range [][]api.Pair{chain, backwards(chain)} {
		checkRefused(t, l, n, api.ErrBig)
		checkRefused(t, append(l[:n:n], ring), n, api.ErrTypesOccurs)
		checkRefused(t, append([]api.Pair{ring}, l...), n, api.ErrTypesOccurs)
		checkRefused(t, append(l[:n:n], api.Pair{A: numbered("v", 100000), B: fun(number, number)}), n, api.ErrTypesMismatch)
	}
	var names []api.Pair
	for i := range n {
		names = append(names, api.Pair{A: numbered("v", 100000+i), B: numbered("v", 100001+i)})
	}
	for _, l := range [][]api.Pair{names, backwards(names)} {
		got, _, code := types.Unify(l)
		if code != api.OK || len(got) != n {
			t.Fatalf("a chain of names: %d Bounds, %v", len(got), code)
		}
		for i, b := range got {
			if b.Name != fmt.Sprint("v", 100001+i) || told(b.Type) != "v100000" {
				t.Fatalf("a chain of names: %s at %d", toldBounds(got[i:i+1]), i)
			}
		}
		checkRefused(t, append(l[:n:n], api.Pair{A: numbered("v", 100000+n), B: data("List", numbered("v", 110000))}), n, api.ErrTypesOccurs)
	}
}
