package typing_test

import (
	"fmt"
	"slices"
	"strings"
	"testing"

	"sloth/api"
	"sloth/fixity"
	"sloth/types"
	"sloth/typing"
)

// definitions tells those of one module, M.
func definitions(t *testing.T, decls string) []typing.Definition {
	t.Helper()
	modules, err := fixity.Resolve([]string{"module M; " + decls})
	if err != nil {
		t.Fatal(err)
	}
	return typing.Definitions(modules)
}

// lay lays the constraints of the definitions of one module, which are one group.
func lay(t *testing.T, decls string) (*typing.Group, []api.Bound) {
	t.Helper()
	groups := typing.Groups(definitions(t, decls))
	if len(groups) != 1 {
		t.Fatal(len(groups), "groups:", decls)
	}
	g := typing.Lay(typing.BuiltIn(), groups[0])
	bounds, _, code := types.Unify(g.Pairs)
	if code != api.OK {
		t.Fatal(code, decls)
	}
	return g, bounds
}

func TestDefinitions(t *testing.T) {
	l := definitions(t, "b x = 1; b :: Int -> Int; b y = 2; a = b;")
	if len(l) != 2 || l[0].Name != "M.b" || l[0].Number != 0 || len(l[0].Clauses) != 2 || l[0].Sig == nil || l[1].Name != "M.a" || l[1].Number != 1 || l[1].Sig != nil {
		t.Error(l)
	}
	if f := *l[1].Fault(api.ErrBig); f != (api.Fault{Code: api.ErrBig, Text: 0, At: -1, Name: "M.a"}) {
		t.Error(f)
	}
}

// TestGroups: chapter 6, Words: the groups, and their order.
func TestGroups(t *testing.T) {
	for _, x := range [][2]string{
		{"", ""},
		{"a = 1; b = 2;", "a; b"},
		{"a = b; b = c; c = 1;", "c; b; a"},
		{"a = b; b = a;", "a b"},
		{"a = d; b = 1; c = a; d = c; e = d + b;", "a c d; b; e"},
		{"a = let {x = b} in x; b = case 1 of {_ -> c}; c = \\x -> a;", "a b c"},
		{"d = b; c = d; b = c; a = d; e = e;", "d c b; a; e"},
	} {
		var groups []string
		for _, g := range typing.Groups(definitions(t, x[0])) {
			var names []string
			for _, d := range g {
				names = append(names, strings.TrimPrefix(d.Name, "M."))
			}
			groups = append(groups, strings.Join(names, " "))
		}
		if got := strings.Join(groups, "; "); got != x[1] {
			t.Errorf("%s: %s, want %s", x[0], got, x[1])
		}
	}
}

// told writes what a variable stands for.
func told(bounds []api.Bound, v api.Type) string {
	s, _ := types.Print(typing.Worth(bounds, v))
	return s
}

// TestTypes: the variables of things stand for their types.
func TestTypes(t *testing.T) {
	g, bounds := lay(t, "f (x, [y]) 0 = let {g z = [x]; g _ = []; h = 'a'} in case y + h of {1 -> g True; n -> g False}; f _ n = [n];")
	f := g.Functions[0]
	if len(g.Functions) != 1 || f.Name != "M.f" || len(f.Rows) != 2 || told(bounds, f.Type) != "((Pair Int (List Int)) -> (Int -> (List Int)))" {
		t.Fatal(f)
	}
	var parts []string
	note := func(name string, v api.Type) { parts = append(parts, name+" "+told(bounds, v)) }
	for _, r := range f.Rows {
		for i, v := range r.Types {
			note(fmt.Sprint(i), v)
		}
		for _, l := range r.Locals {
			note(l.Name, l.Type)
		}
		note("=", r.Body.Type)
	}
	want := []string{"0 (Pair Int (List Int))", "1 Int", "x Int", "y Int", "= (List Int)", "0 (Pair Int (List Int))", "1 Int", "n Int", "= (List Int)"}
	if !slices.Equal(parts, want) {
		t.Errorf("%q, want %q", parts, want)
	}
	let := f.Rows[0].Body
	if let.Kind != api.TermLet || len(let.Args) != 1 || len(let.Lets) != 2 || len(let.Lets[0].Rows) != 2 || len(let.Lets[1].Rows) != 1 || told(bounds, let.Lets[0].Type) != "(Bool -> (List Int))" || told(bounds, let.Lets[1].Type) != "Int" {
		t.Error(let)
	}
	if e := let.Args[0]; e.Kind != api.TermCase || len(e.Args) != 1 || len(e.Rows) != 2 || told(bounds, e.Args[0].Type) != "Int" || e.Rows[1].Locals[0].Name != "n" || told(bounds, e.Rows[1].Body.Args[0].Type) != "(Bool -> (List Int))" {
		t.Error(e)
	}
}

// TestOwner: whose constraints a pair is one of.
func TestOwner(t *testing.T) {
	g, _ := lay(t, "a = b; b = (a, 1) `seq` c; c = b + d; d = c + a;")
	last := 0
	for i := range g.Pairs {
		d := g.Owner(i)
		if d < last || d > last+1 {
			t.Error(i, d)
		}
		last = d
	}
	if first := g.Owner(0); first != 0 || last != 3 {
		t.Error(first, last)
	}
}
