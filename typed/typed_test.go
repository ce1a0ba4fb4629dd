package typed_test

import (
	"slices"
	"testing"

	"sloth/api"
	"sloth/core"
	"sloth/typed"
	"sloth/types"
)

func typ(t *testing.T, text string) api.Type {
	t.Helper()
	made, code := types.Read(text)
	if code != api.OK {
		t.Fatal("the test is wrong:", text)
	}
	return made
}

func check(t *testing.T, what string, got api.Type, want string) {
	t.Helper()
	if text, code := types.Print(got); code != api.OK || text != want {
		t.Errorf("%s: %s, want %s", what, text, want)
	}
}

// TestCons: constructors, the built-in ones too, as functions of their fields and field by field, as core.Type tells them.
func TestCons(t *testing.T) {
	p, code := core.Read(`(data M.T (a b) ("M.L") ("M.N" (M.T b a) (a -> (List b)) Int)) (data M.E () ("M.R") ("M.G" M.E))`)
	if code != api.OK || core.Check(p) != api.OK {
		t.Fatal("the test is wrong:", code)
	}
	cons := typed.Cons(p.Datas)
	if len(cons) != 11 {
		t.Error(len(cons), "constructors")
	}
	for _, x := range []struct {
		name   string
		types  []string
		fields []string
	}{
		{"False", nil, nil}, {"True", nil, nil}, {"Unit", nil, nil}, {"Nil", []string{"Int"}, nil},
		{"Cons", []string{"(Int -> Int)"}, []string{"(Int -> Int)", "(List (Int -> Int))"}},
		{"Pair", []string{"Int", "Bool"}, []string{"Int", "Bool"}},
		{"Triple", []string{"Int", "Bool", "(List Int)"}, []string{"Int", "Bool", "(List Int)"}},
		{"M.L", []string{"Int", "Bool"}, nil},
		{"M.N", []string{"Int", "M.E"}, []string{"(M.T M.E Int)", "(Int -> (List M.E))", "Int"}},
		{"M.R", nil, nil}, {"M.G", nil, []string{"M.E"}},
	} {
		var args []api.Type
		for _, text := range x.types {
			args = append(args, typ(t, text))
		}
		want, code := core.Type(p, nil, api.Expr{Kind: api.ExprCon, Name: x.name, Types: args})
		if code != api.OK {
			t.Fatal("the test is wrong:", x.name, code)
		}
		c, ok := cons[x.name]
		if !ok || len(c.Fields) != len(x.fields) {
			t.Fatal(x.name, ok, len(c.Fields))
		}
		text, _ := types.Print(want)
		check(t, x.name, c.At(args), text)
		for i, field := range x.fields {
			check(t, x.name, c.Field(i, args), field)
		}
	}
}

func TestGeneral(t *testing.T) {
	g := typed.General{Params: map[string]int{"a": 0, "b": 1}, Is: typ(t, "(b -> (Pair a (List b)))")}
	check(t, "At", g.At([]api.Type{typ(t, "Int"), typ(t, "(List Int)")}), "((List Int) -> (Pair Int (List (List Int))))")
	check(t, "At, without parameters", typed.General{Is: typ(t, "(Int -> Bool)")}.At(nil), "(Int -> Bool)")
}

func TestFunction(t *testing.T) {
	l := []api.Type{typ(t, "Int"), typ(t, "(Int -> Bool)"), typ(t, "Unit")}
	check(t, "of none", typed.Function(nil, l[1]), "(Int -> Bool)")
	check(t, "of one", typed.Function(l[:1], l[1]), "(Int -> (Int -> Bool))")
	check(t, "of three", typed.Function(l, l[0]), "(Int -> ((Int -> Bool) -> (Unit -> Int)))")
}

func TestOp(t *testing.T) {
	for _, op := range []string{"+", "-", "*", "/", "%", "==", "/=", "<", "<=", ">", ">="} {
		number := api.Expr{Kind: api.ExprInt}
		want, code := core.Type(api.Program{}, nil, api.Expr{Kind: api.ExprOp, Name: op, Args: []api.Expr{number, number}})
		text, _ := types.Print(want)
		if code != api.OK || !slices.Contains([]string{"Int", "Bool"}, text) {
			t.Fatal("the test is wrong:", op, code)
		}
		check(t, op, typed.Op(op), text)
	}
}

func TestNodes(t *testing.T) {
	for text, want := range map[string]int{"Int": 1, "a": 1, "Unit": 1, "(List Int)": 2, "(Int -> Int)": 3, "(Triple Int (List a) (Int -> (List Bool)))": 8} {
		if got := typed.Nodes(typ(t, text)); got != want {
			t.Errorf("%s: %d, want %d", text, got, want)
		}
	}
}
