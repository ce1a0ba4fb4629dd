package types_test

import (
	"fmt"
	"slices"
	"strings"
	"testing"

	"sloth/api"
	"sloth/types"
)

// names is a name of so many bytes that begins so.
func name(begin string, bytes int) string {
	return begin + strings.Repeat("x", bytes-len(begin))
}

// TestWrong: each call says of a type that may not be, or is too great, what is wrong with it; what may not be comes first.
func TestWrong(t *testing.T) {
	a := []api.Type{variable("a")}
	seven := slices.Repeat(a, api.MaxParams+1)
	l := []api.Type{
		{}, {Kind: -1}, {Kind: 5}, {Kind: api.TyData + 1, Name: "T"},
		{Kind: api.TyInt, Name: "Int"}, {Kind: api.TyInt, Name: "a"}, {Kind: api.TyInt, Args: a},
		{Kind: api.TyVar}, {Kind: api.TyVar, Name: "a", Args: a},
		{Kind: api.TyFun}, {Kind: api.TyFun, Args: a}, {Kind: api.TyFun, Args: slices.Repeat(a, 3)}, {Kind: api.TyFun, Name: "->", Args: slices.Repeat(a, 2)}, {Kind: api.TyFun, Name: "T", Args: slices.Repeat(a, 2)},
		data("T", seven...), data("M.T", seven...),
		variable(name("v", api.MaxName+1)), data(name("T", api.MaxName+1)), data(name("M.T", api.MaxName+1)),
	}
	for _, bad := range []string{"A", "Int", "_", "_a", "'a", "1", "a.b", "a.B", "A.b", " a", "a ", "a-", "a\x00", "\u00e4", "a\u00e4", "a(", "a`", "a{", "a@", "a[", "a/", "a:"} {
		l = append(l, variable(bad))
	}
	for _, bad := range []string{"", "a", "Int", "_", "_T", "1T", "T.", ".T", ".", "M..T", "M.t", "m.T", "M.T.U", "M.T.", ".M.T", "M._", "M.1", "T ", " T", "M. T", "T-", "()", "[]", "(,)", ":", "\u00c4", "T\u00c4", "T@", "T[", "T`", "T{", "@", "[", "M.@", "M.["} {
		l = append(l, data(bad))
	}
	for _, bad := range l {
		checkWrong(t, bad, api.ErrTypesForm)
		checkWrong(t, data("T", number, fun(number, bad)), api.ErrTypesForm)
		checkWrong(t, fun(bad, row(api.MaxType)), api.ErrTypesForm)
		checkWrong(t, fun(row(2*api.MaxType), bad), api.ErrTypesForm)
	}
	for _, big := range []api.Type{row(api.MaxType + 1), row(20 * api.MaxType), fun(row(api.MaxType/2), row(api.MaxType/2))} {
		checkWrong(t, big, api.ErrBig)
	}
	for _, good := range []api.Type{
		number, variable("a"), variable("z"), variable("a'"), variable("zZaA09_'"), variable("int"), variable("let"), data("A"), data("Z"), data("T'_09azAZ"), data("M.T"), data("M'1.T_'"), data("Int.T"), data("M.Int"), data("Int.Int"), data("Int'"), data("Int1"),
		data("T", seven[1:]...), variable(name("v", api.MaxName)), data(name("T", api.MaxName)), data(name("M.T", api.MaxName)), row(api.MaxType),
	} {
		checkApply(t, nil, good, good, api.OK)
		checkPrint(t, good, told(good), api.OK)
		checkRead(t, told(good), good, api.OK)
		if good.Kind == api.TyVar {
			checkCanon(t, good, variable("a"), api.OK)
			checkInstance(t, good, number, good.Name+" Int", api.OK)
		} else {
			checkUnify(t, []api.Pair{{A: variable("q"), B: good}}, "q "+told(good))
			checkInstance(t, variable("q"), good, "q "+told(good), api.OK)
		}
	}
}

// checkWrong: this is wrong with a type, wherever it is handed in.
func checkWrong(t *testing.T, bad api.Type, code api.Errno) {
	t.Helper()
	checkRefused(t, []api.Pair{{A: number, B: number}, {A: number, B: bad}}, 1, code)
	checkRefused(t, []api.Pair{{A: number, B: number}, {A: bad, B: number}}, 1, code)
	checkApply(t, nil, bad, api.Type{}, code)
	checkApply(t, []api.Bound{{Name: "a", Type: bad}}, number, api.Type{}, code)
	checkCanon(t, bad, api.Type{}, code)
	checkInstance(t, bad, number, "no", code)
	checkInstance(t, variable("a"), bad, "no", code)
	checkPrint(t, bad, "", code)
}

// TestDeep: W1: types as deep as the bound lets them be.
func TestDeep(t *testing.T) {
	deep, bad := number, data("Int")
	for range 1 << 16 {
		deep, bad = data("List", deep), data("List", bad)
	}
	checkApply(t, nil, deep, api.Type{}, api.ErrBig)
	checkApply(t, nil, bad, api.Type{}, api.ErrTypesForm)
	checkRead(t, strings.Repeat("(", api.MaxText), api.Type{}, api.ErrTypesText)
	checkRead(t, strings.Repeat("(T ", api.MaxText/4)+"a"+strings.Repeat(")", api.MaxText/4-1), api.Type{}, api.ErrTypesText)
	checkRead(t, strings.Repeat("(T ", api.MaxText/4-1)+"a"+strings.Repeat(")", api.MaxText/4-1), api.Type{}, api.ErrBig)
}

// TestApply: P5.2.
func TestApply(t *testing.T) {
	for _, x := range []struct{ bounds, in, want string }{
		{"a b; b a", "(a -> b)", "(b -> a)"},
		{"", "(a -> (T b Int))", "(a -> (T b Int))"},
		{"a Int", "(a -> (T b a))", "(Int -> (T b Int))"},
		{"a (List a)", "(T a a)", "(T (List a) (List a))"},
		{"a b; b Int", "a", "b"},
		{"b Int; a (T a b)", "(a -> (b -> c))", "((T a b) -> (Int -> c))"},
		{"z Int; y (List z)", "(T y z x)", "(T (List z) Int x)"},
		{"a T; t Int", "(A a T)", "(A T T)"},
		{"a Int", "M.A", "M.A"},
	} {
		checkApply(t, bounds(t, x.bounds), typ(t, x.in), typ(t, x.want), api.OK)
	}
}

// TestApplyWrong: P5.2: Bound by Bound, its Name ahead of its Type, and then the type.
func TestApplyWrong(t *testing.T) {
	form, big := data("Int"), row(api.MaxType+1)
	bound := func(name string, t api.Type) api.Bound { return api.Bound{Name: name, Type: t} }
	for _, x := range []struct {
		l    []api.Bound
		in   api.Type
		code api.Errno
	}{
		{bounds(t, "a Int; a Int"), variable("b"), api.ErrTypesForm},
		{bounds(t, "a Int; b Int; a Bool"), number, api.ErrTypesForm},
		{[]api.Bound{bound("A", number)}, number, api.ErrTypesForm},
		{[]api.Bound{bound("", number)}, number, api.ErrTypesForm},
		{[]api.Bound{bound("a.b", number)}, number, api.ErrTypesForm},
		{[]api.Bound{bound(name("a", api.MaxName+1), number)}, number, api.ErrTypesForm},
		{[]api.Bound{bound("A", big)}, number, api.ErrTypesForm},
		{[]api.Bound{bound("a", number), bound("a", big)}, number, api.ErrTypesForm},
		{[]api.Bound{bound("a", big), bound("a", number)}, number, api.ErrBig},
		{[]api.Bound{bound("a", big), bound("A", number)}, form, api.ErrBig},
		{[]api.Bound{bound("a", big), bound("b", form)}, form, api.ErrBig},
		{[]api.Bound{bound("a", form), bound("b", big)}, big, api.ErrTypesForm},
		{[]api.Bound{bound("a", number), bound("A", number)}, big, api.ErrTypesForm},
		{[]api.Bound{bound("a", row(api.MaxType))}, fun(variable("a"), form), api.ErrTypesForm},
	} {
		checkApply(t, x.l, x.in, api.Type{}, x.code)
	}
	long := name("a", api.MaxName)
	checkApply(t, []api.Bound{bound(long, number)}, data("T", variable(long), variable(long[1:]+"a")), data("T", number, variable(long[1:]+"a")), api.OK)
}

// TestApplyLimits: P5.2: MaxType nodes and MaxCore Bounds, and one more.
func TestApplyLimits(t *testing.T) {
	a := variable("a")
	l := []api.Bound{{Name: "a", Type: row(api.MaxType - 2)}, {Name: "b", Type: row(api.MaxType/2 - 1)}, {Name: "c", Type: row(api.MaxType / 2)}, {Name: "d", Type: row(api.MaxType)}}
	checkApply(t, l, fun(a, number), fun(row(api.MaxType-2), number), api.OK)
	checkApply(t, l, data("List", variable("d")), api.Type{}, api.ErrBig)
	checkApply(t, l, variable("d"), row(api.MaxType), api.OK)
	checkApply(t, l, fun(a, data("T", number)), api.Type{}, api.ErrBig)
	checkApply(t, l, fun(variable("b"), variable("c")), fun(row(api.MaxType/2-1), row(api.MaxType/2)), api.OK)
	checkApply(t, l, fun(variable("c"), variable("c")), api.Type{}, api.ErrBig)
	all := number
	for range (api.MaxType - 1) / 2 {
		all = fun(variable("d"), all)
	}
	checkApply(t, l, all, api.Type{}, api.ErrBig)

	many := make([]api.Bound, api.MaxCore+1)
	for i := range many {
		many[i] = api.Bound{Name: fmt.Sprint("v", i), Type: number}
	}
	checkApply(t, many[:api.MaxCore], fun(variable("v99999"), variable("v100000")), fun(number, variable("v100000")), api.OK)
	checkApply(t, many, number, api.Type{}, api.ErrLong)
	many[0].Name = "A"
	checkApply(t, many, number, api.Type{}, api.ErrLong)
	checkApply(t, many[:api.MaxCore], number, api.Type{}, api.ErrTypesForm)
}

// TestCanon: P5.3.
func TestCanon(t *testing.T) {
	for _, x := range []struct{ in, want string }{
		{"(x -> (y -> x))", "(a -> (b -> a))"},
		{"Int", "Int"},
		{"a", "a"},
		{"b", "a"},
		{"(b -> a)", "(a -> b)"},
		{"(T (U c (List b)) (c -> a) b)", "(T (U a (List b)) (a -> c) b)"},
		{"(M.T Int Bool)", "(M.T Int Bool)"},
	} {
		checkCanon(t, typ(t, x.in), typ(t, x.want), api.OK)
	}
	const letters = "abcdefghijklmnopqrstuvwxyz"
	in, want := number, number
	for i := 248; i >= 0; i-- {
		name := letters[i%26 : i%26+1]
		if i >= 26 {
			name += fmt.Sprint(i / 26)
		}
		in, want = fun(numbered("q", i), in), fun(variable(name), want)
	}
	checkCanon(t, in, want, api.OK)
	for _, name := range []string{"(z -> (a1 ->", "(z1 -> (a2 ->", "(a9 ->", "(o9 -> Int"} {
		if !strings.Contains(told(want), name) {
			t.Errorf("%s does not stand in the test's own type", name)
		}
	}
}

// TestInstance: P5.4.
func TestInstance(t *testing.T) {
	for _, x := range []struct{ general, special, want string }{
		{"(a -> b)", "(Int -> Int)", "a Int; b Int"},
		{"(a -> a)", "(Int -> Bool)", "no"},
		{"a", "(List a)", "a (List a)"},
		{"Int", "a", "no"},
		{"Int", "Int", ""},
		{"a", "a", "a a"},
		{"(b -> a)", "(a -> b)", "a b; b a"},
		{"(a -> a)", "(a -> b)", "no"},
		{"(a -> a)", "((a -> b) -> (a -> b))", "a (a -> b)"},
		{"(a -> a)", "((List (T a Int)) -> (List (T a Bool)))", "no"},
		{"(a -> a)", "((List a) -> (List (List a)))", "no"},
		{"(a -> (List a))", "(a -> a)", "no"},
		{"(T c (b -> a) c)", "(T x (Int -> M.T) x)", "a M.T; b Int; c x"},
		{"(T a)", "(T a a)", "no"},
		{"(T a a)", "(T a)", "no"},
		{"(T a)", "T", "no"},
		{"(T a)", "(U a)", "no"},
		{"(a -> b)", "(Fun a b)", "no"},
		{"(a -> b)", "Int", "no"},
		{"Bool", "M.Bool", "no"},
		{"Bool", "Int", "no"},
		{"(T a10 a9 a a')", "(T Int b b Int)", "a b; a' Int; a10 Int; a9 b"},
	} {
		checkInstance(t, typ(t, x.general), typ(t, x.special), x.want, api.OK)
	}
	// general ahead of special
	checkInstance(t, row(api.MaxType+1), data("Int"), "no", api.ErrBig)
	checkInstance(t, data("Int"), row(api.MaxType+1), "no", api.ErrTypesForm)
	checkInstance(t, variable("a"), row(api.MaxType), "a "+told(row(api.MaxType)), api.OK)
}

// TestTexts: P5.5.
func TestTexts(t *testing.T) {
	for _, s := range []string{
		"Int", "a", "x'", "Bool", "M.T", "(a -> b)", "(T -> T)", "(Int -> Int)", "((a -> b) -> (List Int))", "(M.T Int (a -> b))", "(T a b c d e f)", "(T (T (T T)) ((a -> T) -> T))", "(a -> (b -> c))", "((M.T a) -> (T Int))", "int", "List",
	} {
		checkRead(t, s, typ(t, s), api.OK)
		checkPrint(t, typ(t, s), s, api.OK)
	}
	for _, s := range []string{
		"a -> b", "(List  Int)", "(Int)", "(List)", "Int Int", "", // the chapter's
		" ", " Int", "Int ", "(a->b)", "(a-> b)", "(a ->b)", "(a  -> b)", "(a ->  b)", "( a -> b)", "(a -> b )", "(a -> b) ", "(a -> b", "(a -> b))", "(a -> )", "( -> b)", "(-> b)", "(a ->)", "a)", "(", ")", "()", "( )", "(a -> b -> c)", "(a -> b) -> c", "(T a -> b)",
		"(a)", "(a b)", "(a' Int)", "(Int a)", "(T)", "((T) a)", "((T a) b)", "((T a))", "(T a", "(T a ", "(T a )", "(T  a)", "( T a)", "(T a b c d e f g)", "(T (a b))", "(T ())", "(Ta)b", "(T a)b", "(T(a))", "(T (a -> b)c)", "(T\ta)", "(T\na)", "(T a)\n",
		"A.b", "a.b", "A.B.C", "A.", ".A", "A..B", "1", "_", "'", "a-b", "T#", "\u00e4", "(T \u00c4)", "a\x00", "[a]", "(a, b)", "[Int]", "Int.", "(T Int.t)",
	} {
		checkRead(t, s, api.Type{}, api.ErrTypesText)
	}
}

// TestTextLimits: P5.5: texts of MaxText bytes, names of MaxName bytes, MaxType nodes; and one more.
func TestTextLimits(t *testing.T) {
	for _, first := range []string{"v", "T", "M.T"} {
		checkRead(t, name(first, api.MaxName+1), api.Type{}, api.ErrTypesText)
		checkRead(t, "(a -> "+name(first, api.MaxName+1)+")", api.Type{}, api.ErrTypesText)
	}
	for _, nodes := range []int{api.MaxType, api.MaxType + 1, api.MaxType + 2, 10001} {
		want, code := row(nodes), api.OK
		if nodes > api.MaxType {
			want, code = api.Type{}, api.ErrBig
		}
		checkRead(t, told(row(nodes)), want, code)
		checkRead(t, told(row(nodes))+")", api.Type{}, api.ErrTypesText)
		checkRead(t, "(a  -> "+told(row(nodes))+")", api.Type{}, api.ErrTypesText)
		checkRead(t, "("+told(row(nodes))+" -> "+name("v", api.MaxName+1)+")", api.Type{}, api.ErrTypesText)
	}
	// fifteen names of MaxName bytes, and one that fills the text
	long := func(more int) api.Type {
		all := variable(name("v", api.MaxText-15*(api.MaxName+6)+more))
		for range 15 {
			all = fun(variable(name("w", api.MaxName)), all)
		}
		return all
	}
	if n := len(told(long(0))); n != api.MaxText {
		t.Fatalf("the test's own text has %d bytes", n)
	}
	checkPrint(t, long(0), told(long(0)), api.OK)
	checkRead(t, told(long(0)), long(0), api.OK)
	checkPrint(t, long(1), "", api.ErrBig)
	checkRead(t, told(long(1)), api.Type{}, api.ErrLong)
	checkRead(t, strings.Repeat(" ", api.MaxText+1), api.Type{}, api.ErrLong)
	checkRead(t, strings.Repeat(" ", api.MaxText), api.Type{}, api.ErrTypesText)
	most := data(name("T", api.MaxName), slices.Repeat([]api.Type{data("U", slices.Repeat([]api.Type{variable(name("v", api.MaxName))}, 6)...)}, 6)...)
	checkPrint(t, most, "", api.ErrBig)
	if text, code := types.Print(row(api.MaxType)); code != api.OK || text != told(row(api.MaxType)) {
		t.Error("MaxType nodes:", code)
	}
}
