package strict

import (
	"testing"

	"sloth/api"
	"sloth/lattice"
	"sloth/types"
)

func typ(t *testing.T, text string) api.Type {
	t.Helper()
	made, code := types.Read(text)
	if code != api.OK {
		t.Fatal("the test is wrong:", text)
	}
	return made
}

// TestOrders: what is kept of a type is what lattice tells of it.
func TestOrders(t *testing.T) {
	k := newOrders()
	for _, text := range []string{
		"Int", "Bool", "(Pair Int (Int -> Int))", "(List Int)", "(List (List (Int -> Int)))", "(M.List Int)",
		"(Int -> Int)", "(Int -> Bool)", "((List Int) -> Int)", "(Unit -> (List Bool))", "((List Int) -> (List Int))", "(Int -> (Int -> Int))", "(Int -> (Int -> (Int -> Int)))", "((Int -> Int) -> Int)", "((Int -> Int) -> (Int -> Int))", "((Int -> (Int -> Int)) -> Int)", "(((Int -> Int) -> Int) -> Int)", "(Int -> ((List Int) -> Int))", "(((List Int) -> Int) -> Int)", "((Int -> (List Int)) -> Int)", "(((List Int) -> Int) -> (Int -> Int))", "((List Int) -> ((Int -> Int) -> Int))", "(Int -> ((Int -> Int) -> Int))",
		"(Int -> ((List Int) -> (List Int)))", "((List Int) -> ((List Int) -> Int))", "((Int -> ((List Int) -> (List Int))) -> Int)", "(Int -> (Int -> (Int -> (Int -> Int))))",
	} {
		is := typ(t, text)
		o := k.orderOf(is)
		size, code := lattice.Size(is)
		if code != api.OK {
			size = 1
		}
		if o.size != size || o.isKnown() != (code == api.OK) || o.isPlain() != (o.isKnown() && is.Kind != api.TyFun) || o.greatest() != size-1 {
			t.Fatalf("%s: %d elements, want %d", text, o.size, size)
		}
		if k.orderOf(is) != o {
			t.Errorf("%s is asked for again", text)
		}
		if o.isKnown() {
			checkOrder(t, is, o)
		}
	}
	// types of one shape
	for _, pair := range [][2]string{{"Int", "(Pair Int Int)"}, {"(List Int)", "(List (Int -> Bool))"}, {"(Int -> (List Int))", "(Bool -> (List Unit))"}, {"((List Int) -> ((List Int) -> Int))", "(Int -> (Int -> (Int -> (Int -> Int))))"}} {
		if k.orderOf(typ(t, pair[0])) != k.orderOf(typ(t, pair[1])) {
			t.Error(pair)
		}
	}
}

// checkOrder: at each pair of elements.
func checkOrder(t *testing.T, is api.Type, o *order) {
	t.Helper()
	for a := range o.size {
		for b := range o.size {
			join, _ := lattice.Join(is, a, b)
			below, _ := lattice.Below(is, a, b)
			if o.join(a, b) != join || o.below(a, b) != below {
				t.Fatalf("%v: of %d and %d: %d, %v; want %d, %v", is, a, b, o.join(a, b), o.below(a, b), join, below)
			}
		}
		if is.Kind != api.TyFun {
			continue
		}
		for x := range o.from.size {
			if v, code := lattice.Apply(is, a, x); code != api.OK || o.results[a][x] != v {
				t.Fatalf("%v: %d makes %d of %d, want %d", is, a, o.results[a][x], x, v)
			}
		}
		if f := o.find(o.results[a]); f != a {
			t.Fatalf("%v: %d has the results of %d", is, f, a)
		}
	}
}

// TestTables: the points of a table are laid in their order, and the number of a parameter is read off it.
func TestTables(t *testing.T) {
	k := newOrders()
	d := &definition{table: newTable([]*order{k.plain, k.list, k.unknown, k.orderOf(typ(t, "(Int -> Int)"))}, k.plain), known: true}
	if d.points != 24 {
		t.Fatal(d.points)
	}
	elements := make([]int, 5)
	for point := range d.points {
		d.set(elements, point)
		if got := (elements[0]*4+elements[1])*3 + elements[3]; got != point || elements[2] != 0 || elements[4] != 0 {
			t.Error(point, elements)
		}
	}
	d.results = make([]int, 24)
	for point := range d.points {
		d.set(elements, point)
		if elements[0] == 1 && elements[1] >= 2 && elements[3] >= 1 {
			d.results[point] = 1
		}
	}
	for i, want := range []int{1, 2, 0, 1} {
		if got := d.signature().Args[i]; got != want {
			t.Error(i, got, want)
		}
	}
}

// TestLevels: each group stands behind those that it needs, and none needs another one of its level.
func TestLevels(t *testing.T) {
	defs := make([]*definition, 7)
	for i, needs := range [][]int{{1, 2}, {3}, {3, 4}, {}, {2, 5}, {}, {6, 3}} {
		defs[i] = &definition{place: i, needs: needs}
	}
	want := [][][]int{{{3}, {5}}, {{1}, {2, 4}, {6}}, {{0}}}
	got := levels(defs)
	if len(got) != len(want) {
		t.Fatal(len(got), "levels")
	}
	for i, level := range got {
		if len(level) != len(want[i]) {
			t.Fatal(i, len(level), "groups")
		}
		for j, g := range level {
			for n, d := range g.defs {
				if d.place != want[i][j][n] || len(g.defs) != len(want[i][j]) {
					t.Error(i, j, d.place)
				}
			}
			if g.loops != (len(g.defs) > 1 || g.defs[0].place == 6) {
				t.Error(i, j, g.loops)
			}
		}
	}
}
