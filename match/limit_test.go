package match_test

import (
	"fmt"
	"math/rand"
	"slices"
	"testing"

	"sloth/api"
)

// P7.1: what is at a limit, and one past it.

func TestLengths(t *testing.T) {
	fams := families(given)
	for _, n := range []int{1, 2, api.MaxRows - 1, api.MaxRows} {
		checkTaken(t, "rows", fams, times(n, []api.Pat{con("A")}))
		checkTaken(t, "rows without columns", fams, times(n, []api.Pat{}))
	}
	for _, n := range []int{api.MaxRows + 1, api.MaxRows + 2, 100000} {
		checkRefused(t, "rows", fams, times(n, []api.Pat{con("A")}), api.ErrLong)
		checkRefused(t, "rows without columns", fams, times(n, []api.Pat{}), api.ErrLong)
	}
	for _, n := range []int{1, api.MaxColumns - 1, api.MaxColumns} {
		tree, _ := checkTaken(t, "columns", fams, [][]api.Pat{times(n, con("U")), times(n, wild)})
		if nodes(tree) != n+1 {
			t.Errorf("%d columns: %s", n, toldTree(tree))
		}
		checkTaken(t, "rows and columns", fams, times(api.MaxRows, times(n, wild)))
	}
	for _, n := range []int{api.MaxColumns + 1, api.MaxColumns + 2, 100000} {
		checkRefused(t, "columns", fams, [][]api.Pat{times(n, con("U"))}, api.ErrLong)
		checkRefused(t, "columns", fams, [][]api.Pat{times(n, wild), times(n, wild)}, api.ErrLong)
		checkRefused(t, "columns of the last", fams, [][]api.Pat{times(api.MaxColumns, wild), times(n, wild)}, api.ErrLong)
		checkRefused(t, "columns of the first", fams, [][]api.Pat{times(n, wild), {wild}}, api.ErrLong)
	}
}

func nodes(t api.Tree) int {
	n := 1
	for _, c := range t.Cases {
		n += nodes(c.Then)
	}
	for _, e := range t.Else {
		n += nodes(e)
	}
	return n
}

// numbered is a family with so many constructors, all with so many fields.
func numbered(name string, cons, fields int) api.Family {
	var f api.Family
	for i := range cons {
		f.Cons, f.Fields = append(f.Cons, fmt.Sprint(name, i)), append(f.Fields, fields)
	}
	return f
}

// TestFamilySizes: MaxCons constructors with MaxFields fields, all of them used, and one more.
func TestFamilySizes(t *testing.T) {
	for _, cons := range []int{1, 2, api.MaxCons} {
		for _, fields := range []int{0, 1, api.MaxFields} {
			fams := []api.Family{numbered("A", cons, fields), numbered("B", cons, fields)}
			var l [][]api.Pat
			for i := range cons {
				l = append(l, []api.Pat{con(fmt.Sprint("A", cons-1-i), times(fields, con("B0", times(fields, wild)...))...)})
			}
			checkPlain(t, fams, l)
			tree, cover := checkTaken(t, "families", fams, l)
			if len(tree.Cases) != cons || tree.Cases[0].Con != "A0" || len(tree.Else) != 0 || cover.Whole != (cons == 1 || fields == 0) {
				t.Errorf("%d constructors, %d fields: %s, %s", cons, fields, toldTree(tree), toldCover(cover))
			}
		}
	}
	right := numbered("A", 2, 0)
	checkRefused(t, "constructors", []api.Family{right, numbered("B", api.MaxCons+1, 0)}, nil, api.ErrMatchTable)
	checkRefused(t, "fields", []api.Family{right, numbered("B", 1, api.MaxFields+1)}, nil, api.ErrMatchTable)
	var many []api.Family
	for i := range 20000 {
		many = append(many, numbered(fmt.Sprint("Of", i, "C"), 1+i%3, i%4))
	}
	checkTaken(t, "many families", many, [][]api.Pat{{con("Of19999C0", wild, wild, wild)}})
	checkRefused(t, "many families", append(many, numbered("Of10000C", 1, 0)), nil, api.ErrMatchTable)
}

// fullRows make a tree of MaxTree nodes: 49 numbers and 97 others in two columns.
func fullRows() [][]api.Pat {
	var l [][]api.Pat
	for i := range 49 {
		l = append(l, []api.Pat{num(i), num(0)})
	}
	for i := range 97 {
		l = append(l, []api.Pat{wild, num(i + 1)})
	}
	return l
}

// bigRows make a tree of one node more.
func bigRows() [][]api.Pat {
	return append(fullRows(), []api.Pat{num(48), num(1000)})
}

func TestTreeSize(t *testing.T) {
	fams := families(given)
	tree, cover := checkTaken(t, "MaxTree nodes", fams, fullRows())
	if nodes(tree) != api.MaxTree || toldCover(cover) != "missing 0, 98" {
		t.Error("the test counts wrong:", nodes(tree), toldCover(cover))
	}
	// what adds no node
	full := func(more ...[]api.Pat) [][]api.Pat { return append(fullRows(), more...) }
	for _, l := range [][][]api.Pat{full([]api.Pat{wild, wild}), full([]api.Pat{num(48), num(97)}), full([]api.Pat{num(0), wild})} {
		if tree, _ := checkTaken(t, "MaxTree nodes", fams, l); nodes(tree) != api.MaxTree {
			t.Error("the test counts wrong:", nodes(tree))
		}
	}
	for _, l := range [][][]api.Pat{bigRows(), full([]api.Pat{num(0), num(-1)}), full([]api.Pat{wild, num(1000)}), full([]api.Pat{num(1000), wild}), full([]api.Pat{num(1000), num(0)})} {
		checkRefused(t, "more nodes", fams, l, api.ErrBig)
	}
	// one node less, and so one more constructor
	l := fullRows()
	l[0] = []api.Pat{num(0), wild}
	if tree, _ := checkTaken(t, "fewer nodes", fams, l); nodes(tree) >= api.MaxTree {
		t.Error("the test counts wrong:", nodes(tree))
	}
	// constructors: each of k columns of a Bool doubles the tree
	for k := 1; k <= api.MaxColumns; k++ {
		first := times(k, con("True"))
		l := [][]api.Pat{first}
		for i := range k {
			row := times(k, wild)
			row[i] = con("False")
			l = append(l, row)
		}
		checkPlain(t, fams, append(l, slices.Repeat([]api.Pat{con("True"), con("False")}, k)[:k]))
	}
}

// TestPatternNest: a pattern as deep as may be and one deeper, wherever it stands; whether a way comes by or not.
func TestPatternNest(t *testing.T) {
	fams := families(given)
	for _, x := range []struct {
		what string
		make func(n int) [][]api.Pat // the deepest pattern has so many levels
	}{
		{"one without Else", func(n int) [][]api.Pat { return [][]api.Pat{{chain(n-1, "K", wild)}} }},
		{"a variable inside", func(n int) [][]api.Pat { return [][]api.Pat{{chain(n-1, "K", variable("x"))}} }},
		{"one with Else", func(n int) [][]api.Pat { return [][]api.Pat{{chain(n-1, "C", wild)}} }},
		{"an idle one", func(n int) [][]api.Pat { return [][]api.Pat{{wild}, {chain(n-1, "K", con("U"))}} }},
		{"an idle one, numbers", func(n int) [][]api.Pat { return [][]api.Pat{{wild, wild}, {wild, chain(n-1, "K", num(1))}} }},
		{"the second field", func(n int) [][]api.Pat {
			return [][]api.Pat{{wild}, {con("Cons", con("A"), con("Cons", wild, chain(n-3, "K", wild)))}}
		}},
		{"the last field, the last column", func(n int) [][]api.Pat {
			return [][]api.Pat{{wild, wild}, {con("U"), con("T", wild, wild, chain(n-2, "L", num(3)))}, {con("U"), wild}}
		}},
	} {
		for _, n := range []int{5, api.MaxNest - 1, api.MaxNest} {
			checkTaken(t, x.what, fams, x.make(n))
		}
		for _, n := range []int{api.MaxNest + 1, api.MaxNest + 2, 2 * api.MaxNest} {
			checkRefused(t, x.what, fams, x.make(n), api.ErrNest)
		}
	}
	// a leaf is one deep, though its constructor stands there: so the tree is one deeper than the pattern
	checkTaken(t, "a tree as deep as may be", fams, [][]api.Pat{{chain(api.MaxNest-2, "K", con("U"))}})
	checkRefused(t, "a tree one deeper", fams, [][]api.Pat{{chain(api.MaxNest-1, "K", con("U"))}}, api.ErrNest)
}

// TestTreeNest: a tree as deep as may be and one deeper, of patterns that are not so deep.
func TestTreeNest(t *testing.T) {
	fams := families(given)
	for _, x := range []struct {
		what string
		make func(n int) [][]api.Pat // a tree of this nest
	}{
		{"two columns", func(n int) [][]api.Pat {
			return [][]api.Pat{{chain(n/2, "K", wild), chain(n-1-n/2, "K", wild)}}
		}},
		{"two fields", func(n int) [][]api.Pat {
			return [][]api.Pat{{con("T", chain(n/2, "K", wild), wild, chain(n-2-n/2, "K", wild))}}
		}},
		{"behind an Else", func(n int) [][]api.Pat {
			return [][]api.Pat{{num(1), wild, wild}, {wild, chain(n/2, "K", wild), chain(n-2-n/2, "K", wild)}}
		}},
		{"behind an Else of constructors", func(n int) [][]api.Pat {
			return [][]api.Pat{{con("A"), wild, wild}, {wild, chain(n/2, "K", wild), chain(n-2-n/2, "K", wild)}}
		}},
		{"behind the last Case", func(n int) [][]api.Pat {
			return [][]api.Pat{{con("A"), wild}, {con("C", wild), wild}, {con("B"), chain(n-2, "K", wild)}}
		}},
		{"16 columns", func(n int) [][]api.Pat {
			row := times(15, chain(60, "K", wild))
			return [][]api.Pat{append(row, chain(n-1-15*60, "K", wild))}
		}},
	} {
		for _, n := range []int{905, api.MaxNest - 1, api.MaxNest} {
			if tree, _ := checkTaken(t, x.what, fams, x.make(n)); plainNest(tree) != n {
				t.Errorf("%s: the test counts wrong: %d, want %d", x.what, plainNest(tree), n)
			}
		}
		for _, n := range []int{api.MaxNest + 1, api.MaxNest + 2, 2*api.MaxNest - 200} {
			checkRefused(t, x.what, fams, x.make(n), api.ErrNest)
		}
	}
}

// TestSizeAndNest: deep trees are counted to their end.
func TestSizeAndNest(t *testing.T) {
	fams := families(given)
	deep := func(n int, name string) [][]api.Pat { return [][]api.Pat{{chain(n, name, wild)}} }
	checkRefused(t, "MaxTree nodes, one below the other", fams, deep(api.MaxTree-1, "K"), api.ErrNest)
	checkRefused(t, "one more", fams, deep(api.MaxTree, "K"), api.ErrBig)
	// each C has a TreeFail beside it
	checkRefused(t, "MaxTree nodes but one", fams, deep(api.MaxTree/2-1, "C"), api.ErrNest)
	checkRefused(t, "one more than MaxTree", fams, deep(api.MaxTree/2, "C"), api.ErrBig)
	// nothing of the pattern comes to the tree
	checkRefused(t, "an idle row", fams, append(rows("_"), deep(65000, "K")...), api.ErrNest)
	checkRefused(t, "a deep row", fams, deep(65000, "K"), api.ErrBig)
	checkRefused(t, "a deep row that is wrong inside", fams, [][]api.Pat{{chain(65000, "K", con("K"))}}, api.ErrMatchRow)
}

// TestLong: W1: inputs as long, as deep and as broad as may be, and much is alike in them.
func TestLong(t *testing.T) {
	t.Parallel()
	fams := append(families(given), numbered("E", 1, api.MaxFields))
	r := rand.New(rand.NewSource(9))
	random := func(rows int, of ...api.Pat) [][]api.Pat {
		var l [][]api.Pat
		for range rows {
			var row []api.Pat
			for range api.MaxColumns {
				row = append(row, pick(r, of...))
			}
			l = append(l, row)
		}
		return l
	}
	var wide api.Pat = wild
	for range 13 {
		wide = con("T", wide, wide, wide)
	}
	// the first row is wild where all others have much
	thin, thick := wild, wild
	for range api.MaxTree - 2 {
		thin = con("E0", append(times(api.MaxFields-1, wild), thin)...)
		thick = con("E0", append(times(api.MaxFields-1, num(1)), thick)...)
	}
	for what, x := range map[string]struct {
		rows [][]api.Pat
		want api.Errno
	}{
		"Bools":                {random(api.MaxRows, con("True"), con("False"), wild), api.ErrBig},
		"numbers":              {random(api.MaxRows, num(1), num(2), num(3), num(4), wild, wild), api.ErrBig},
		"all wild":             {random(api.MaxRows, wild, variable("x")), api.OK},
		"fields":               {random(api.MaxRows, con("C", con("C", con("A"))), con("C", con("B")), con("A"), wild), api.ErrBig},
		"a great pattern":      {times(api.MaxRows/20, []api.Pat{wide}), api.ErrBig},
		"a great idle pattern": {[][]api.Pat{{wild}, {wide}}, api.OK},
		"deep rows":            {times(api.MaxRows, times(api.MaxColumns, chain(62, "K", wild))), api.OK},
		"deeper rows":          {times(api.MaxRows, times(api.MaxColumns, chain(312, "K", wild))), api.ErrNest},
		"wild fields":          {times(api.MaxRows, []api.Pat{thin}), api.ErrNest},
		"much behind":          {append([][]api.Pat{{thin}}, times(api.MaxRows-1, []api.Pat{thick})...), api.ErrNest},
	} {
		soon(t, what, func() {
			if x.want == api.OK {
				checkTaken(t, what, fams, x.rows)
			} else {
				checkRefused(t, what, fams, x.rows, x.want)
			}
		})
	}
}
