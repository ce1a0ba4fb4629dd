package lattice_test

import (
	"strings"
	"testing"

	"sloth/api"
	"sloth/lattice"
	"sloth/types"
)

// The pieces of which types are made here.

var number = api.Type{Kind: api.TyInt}

func variable(name string) api.Type { return api.Type{Kind: api.TyVar, Name: name} }

func data(name string, args ...api.Type) api.Type {
	return api.Type{Kind: api.TyData, Name: name, Args: args}
}

func list(t api.Type) api.Type { return data("List", t) }

func fun(a, b api.Type) api.Type { return api.Type{Kind: api.TyFun, Args: []api.Type{a, b}} }

// leftwards is a function type of so many arrows, each of which takes what the one within is. Of an end with n elements in a row it has one more for each arrow.
func leftwards(end api.Type, arrows int) api.Type {
	for range arrows {
		end = fun(end, number)
	}
	return end
}

// rightwards is a function of so many numbers.
func rightwards(arrows int, end api.Type) api.Type {
	for range arrows {
		end = fun(number, end)
	}
	return end
}

// typ reads a type of a test.
func typ(t *testing.T, text string) api.Type {
	t.Helper()
	made, code := types.Read(text)
	if code != api.OK {
		t.Fatalf("the test's own type %q: %v", text, code)
	}
	return made
}

// told writes a type, also one that may not be.
func told(t api.Type) string {
	var args []string
	for _, a := range t.Args {
		args = append(args, told(a))
	}
	switch {
	case t.Kind == api.TyInt && t.Name == "" && len(args) == 0:
		return "Int"
	case t.Kind == api.TyFun && t.Name == "" && len(args) == 2:
		return "(" + strings.Join(args, " -> ") + ")"
	case (t.Kind == api.TyData || t.Kind == api.TyVar) && len(args) == 0:
		return t.Name
	case t.Kind == api.TyData:
		return "(" + t.Name + " " + strings.Join(args, " ") + ")"
	}
	return "<" + string(rune('0'+t.Kind)) + " " + t.Name + " " + strings.Join(args, " ") + ">"
}

func short(s string) string {
	if len(s) > 300 {
		s = s[:200] + " .. " + s[len(s)-100:]
	}
	return s
}

// name is a text of so many bytes that begins so.
func name(begin string, bytes int) string { return begin + strings.Repeat("x", bytes-len(begin)) }

// checkSize: a type has so many elements.
func checkSize(t *testing.T, in api.Type, want int) {
	t.Helper()
	if got, code := lattice.Size(in); got != want || code != api.OK {
		t.Errorf("Size(%s): %d, %v; want %d", short(told(in)), got, code, want)
	}
}

// checkNone: a type has no elements, and no call tells anything else of it, whatever it is given besides.
func checkNone(t *testing.T, in api.Type) {
	t.Helper()
	if n, code := lattice.Size(in); n != 0 || code != api.ErrLatticeType {
		t.Errorf("Size(%s): %d, %v", short(told(in)), n, code)
	}
	for _, at := range [][2]int{{0, 0}, {-1, 0}, {0, -1}, {99, 99}} {
		if is, code := lattice.Below(in, at[0], at[1]); is || code != api.ErrLatticeType {
			t.Errorf("Below(%s, %v): %v, %v", short(told(in)), at, is, code)
		}
		if n, code := lattice.Join(in, at[0], at[1]); n != 0 || code != api.ErrLatticeType {
			t.Errorf("Join(%s, %v): %d, %v", short(told(in)), at, n, code)
		}
	}
	checkNoFunction(t, in)
}

// checkNoFunction: a type has no elements, or is no function type.
func checkNoFunction(t *testing.T, in api.Type) {
	t.Helper()
	for _, at := range [][2]int{{0, 0}, {1, 1}, {-1, 0}, {0, -1}, {99, 99}} {
		checkApply(t, in, at[0], at[1], 0, api.ErrLatticeType)
		checkOf(t, in, at[:], 0, api.ErrLatticeType)
		checkEdge(t, in, at[0], at[1], nil, api.ErrLatticeType)
	}
	for _, l := range [][]int{nil, {0}, {0, 0, 0, 0}, {0, 1, 2}} {
		checkOf(t, in, l, 0, api.ErrLatticeType)
	}
}

func checkApply(t *testing.T, in api.Type, f, x, want int, code api.Errno) {
	t.Helper()
	if got, e := lattice.Apply(in, f, x); got != want || e != code {
		t.Errorf("Apply(%s, %d, %d): %d, %v; want %d, %v", short(told(in)), f, x, got, e, want, code)
	}
}

func checkOf(t *testing.T, in api.Type, l []int, want int, code api.Errno) {
	t.Helper()
	if got, e := lattice.Of(in, l); got != want || e != code {
		t.Errorf("Of(%s, %v): %d, %v; want %d, %v", short(told(in)), l, got, e, want, code)
	}
}

// checkEdge: a nil list and an empty one are the same (W5).
func checkEdge(t *testing.T, in api.Type, f, v int, want []int, code api.Errno) {
	t.Helper()
	if got, e := lattice.Edge(in, f, v); !sameList(got, want) || e != code {
		t.Errorf("Edge(%s, %d, %d): %v, %v; want %v, %v", short(told(in)), f, v, got, e, want, code)
	}
}

func checkBelow(t *testing.T, in api.Type, a, b int, want bool, code api.Errno) {
	t.Helper()
	if got, e := lattice.Below(in, a, b); got != want || e != code {
		t.Errorf("Below(%s, %d, %d): %v, %v; want %v, %v", short(told(in)), a, b, got, e, want, code)
	}
}

func checkJoin(t *testing.T, in api.Type, a, b, want int, code api.Errno) {
	t.Helper()
	if got, e := lattice.Join(in, a, b); got != want || e != code {
		t.Errorf("Join(%s, %d, %d): %d, %v; want %d, %v", short(told(in)), a, b, got, e, want, code)
	}
}
