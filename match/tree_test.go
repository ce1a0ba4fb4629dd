package match_test

import (
	"fmt"
	"strings"
	"testing"

	"sloth/api"
	"sloth/match"
)

// P7.1: trees and coverages that are known.

// TestExamples: those of the chapter.
func TestExamples(t *testing.T) {
	const fams = "Nil 0, Cons 2 | A 0, B 0, C 1"
	for _, x := range []struct{ rows, tree, cover string }{
		{"", "fail", ""},
		{".", "row 0", "whole"},
		{"Nil | Cons x _", "at 0: (Nil: row 0; Cons: row 1)", "whole"},
		{"Cons x Nil", "at 0: (Cons: at 0 1: (Nil: row 0; else fail); else fail)", "missing Cons _ (Cons _ _)"},
		{"_, Nil | Nil, _", "at 1: (Nil: row 0; else at 0: (Nil: row 1; else fail))", "missing Cons _ _, Cons _ _"},
		{"3, _ | 0, A | _, B", "at 0: (0: at 1: (A: row 1; B: row 2; else fail); 3: row 0; else at 1: (B: row 2; else fail))", "missing 0, C _"},
		{"A | x | B", "at 0: (A: row 0; B: row 1; else row 1)", "whole; idle 2"},
		{"C 1 | C _", "at 0: (C: at 0 0: (1: row 0; else row 1); else fail)", "missing A"},
	} {
		checkTree(t, fams, x.rows, x.tree, x.cover)
	}
	for _, text := range []string{"Nil | A", "Nil | 3", "Cons _", "Cons 1 _ | Cons Nil _"} {
		checkRefused(t, "an example", families(fams), rows(text), api.ErrMatchRow)
	}
	checkRefused(t, "an example", families("A 0 | A 1"), nil, api.ErrMatchTable)
}

func TestTrees(t *testing.T) {
	for _, x := range []struct{ rows, tree, cover string }{
		// wild patterns
		{"x", "row 0", "whole"},
		{"x | y | _", "row 0", "whole; idle 1 2"},
		{"_, x | 1, A", "row 0", "whole; idle 1"},
		{". | . | .", "row 0", "whole; idle 1 2"},
		{"1 | x | 2", "at 0: (1: row 0; 2: row 1; else row 1)", "whole; idle 2"},
		// constructors, in the family's order; those behind a row that takes all too
		{"C _ | A | B", "at 0: (A: row 1; B: row 2; C: row 0)", "whole"},
		{"B | _ | C 1 | A | B", "at 0: (A: row 1; B: row 0; C: row 1)", "whole; idle 2 3 4"},
		{"Nil | Nil | Cons _ _", "at 0: (Nil: row 0; Cons: row 2)", "whole; idle 1"},
		{"B | x", "at 0: (B: row 0; else row 1)", "whole"},
		{"U", "at 0: (U: row 0)", "whole"},
		{"U | x", "at 0: (U: row 0)", "whole; idle 1"},
		{"K x | y", "at 0: (K: row 0)", "whole; idle 1"},
		{"x | K 1", "row 0", "whole; idle 1"},
		// which column comes first, and where fields stand
		{"T 1 2 3, 4", "at 0: (T: at 0 0: (1: at 0 1: (2: at 0 2: (3: at 1: (4: row 0; else fail); else fail); else fail); else fail))", "missing T 1 2 3, 0"},
		{"_, 1, _ | T _ 5 _, 2, 7", "at 1: (1: row 0; 2: at 0: (T: at 0 1: (5: at 2: (7: row 1; else fail); else fail)); else fail)", "missing T _ 5 _, 2, 0"},
		{"_, Cons 1 _ | 2, Cons _ (Cons 3 _)", "at 1: (Cons: at 1 0: (1: row 0; else at 0: (2: at 1 1: (Cons: at 1 1 0: (3: row 1; else fail); else fail); else fail)); else fail)", "missing 2, Cons 0 (Cons 0 _)"},
		{"x, y, z, True | 1, 2, 3, _", "at 3: (True: row 0; else at 0: (1: at 1: (2: at 2: (3: row 1; else fail); else fail); else fail))", "missing 1, 2, 0, False"},
		// numbers and constructors in unlike columns
		{"1, Nil | x, Cons 2 _ | 1, _", "at 0: (1: at 1: (Nil: row 0; Cons: at 1 0: (2: row 1; else row 2)); else at 1: (Cons: at 1 0: (2: row 1; else fail); else fail))", "missing 0, Cons 0 _"},
		{"True, _ | _, True | False, False", "at 0: (False: at 1: (False: row 2; True: row 1); True: row 0)", "whole"},
		{"A, 1 | B, 2", "at 0: (A: at 1: (1: row 0; else fail); B: at 1: (2: row 1; else fail); else fail)", "missing A, 0"},
		{"A, _ | B, 2", "at 0: (A: row 0; B: at 1: (2: row 1; else fail); else fail)", "missing B, 0"},
		// columns of columns: each constructor has its own
		{"L 1 | R Nil | L x", "at 0: (L: at 0 0: (1: row 0; else row 2); R: at 0 0: (Nil: row 1; else fail))", "missing R (Cons _ _)"},
		{"C 1, C Nil", "at 0: (C: at 0 0: (1: at 1: (C: at 1 0: (Nil: row 0; else fail); else fail); else fail); else fail)", "missing C 1, C (Cons _ _)"},
		{"C (C 1) | C A | C (C _)", "at 0: (C: at 0 0: (A: row 1; C: at 0 0 0: (1: row 0; else row 2); else fail); else fail)", "missing C B"},
		{"Cons Nil _, 1 | _, 2 | Cons _ Nil, _", "at 0: (Cons: at 0 0: (Nil: at 1: (1: row 0; 2: row 1; else at 0 1: (Nil: row 2; else fail)); else at 1: (2: row 1; else at 0 1: (Nil: row 2; else fail))); else at 1: (2: row 1; else fail))", "missing Cons Nil (Cons _ _), 0"},
	} {
		checkTree(t, given, x.rows, x.tree, x.cover)
	}
	// no families are needed where no pattern names one
	checkTree(t, "", "1, _ | _, 2", "at 0: (1: row 0; else at 1: (2: row 1; else fail))", "missing 0, 0")
	checkTree(t, "", "", "fail", "")
	checkTree(t, "", "x", "row 0", "whole")
	// names are bytes, whatever they are
	checkTree(t, "B 0, A 0", "A | B", "at 0: (B: row 1; A: row 0)", "whole")
	checkTree(t, "(:) 0, Ä 1, \x80 0", "Ä (Ä _) | \x80", "at 0: (Ä: at 0 0: (Ä: row 0; else fail); \x80: row 1; else fail)", "missing Ä (:)")
}

// TestNumbers: rising, each once; the least number from 0 on that has no Case.
func TestNumbers(t *testing.T) {
	least, most := fmt.Sprint(api.MinInt), fmt.Sprint(api.MaxInt)
	checkTree(t, "", "3 | -1 | 3 | "+most+" | "+least+" | 0",
		"at 0: ("+least+": row 4; -1: row 1; 0: row 5; 3: row 0; "+most+": row 3; else fail)", "missing 1; idle 2")
	for _, x := range []struct{ rows, missing string }{
		{"0", "1"}, {"1", "0"}, {"-1", "0"}, {"2 | 1", "0"}, {"2 | 0", "1"}, {"4 | 2 | 1 | 0", "3"}, {"2 | 1 | 0 | -1", "3"}, {"0 | 0", "1"},
		{"-5 | -4", "0"}, {least, "0"}, {most, "0"}, {least + " | 0 | " + most, "1"}, {"1 | 2 | 3", "0"},
	} {
		_, c := checkTaken(t, "numbers", nil, rows(x.rows))
		if c.Whole || len(c.Missing) != 1 || !samePat(c.Missing[0], rows(x.missing)[0][0]) {
			t.Errorf("Compile(%s): %s, want missing %s", x.rows, toldCover(c), x.missing)
		}
	}
	var all []string
	for n := range api.MaxRows {
		all = append(all, fmt.Sprint((n*77)%api.MaxRows))
	}
	_, c := checkTaken(t, "numbers", nil, rows(strings.Join(all, " | ")))
	if toldCover(c) != "missing 200" {
		t.Error("of 0 to 199:", toldCover(c))
	}
}

// TestGaps: the first constructor of the family that has no Case, its fields wild.
func TestGaps(t *testing.T) {
	for _, x := range []struct{ rows, missing string }{
		{"A", "B"}, {"B", "A"}, {"C _", "A"}, {"C _ | A", "B"}, {"A | B", "C _"}, {"B | C x", "A"}, {"B | A", "C _"},
		{"Nil", "Cons _ _"}, {"Cons _ _", "Nil"}, {"T _ A _", "T _ B _"}, {"L 0", "L 1"}, {"L _", "R _"}, {"R x", "L _"},
		{"Cons x y, 1", "Cons _ _, 0"}, {"Cons (C x) (Cons y A)", "Cons (C _) (Cons _ B)"}, {"Cons _ (C x), U", "Cons _ A, _"},
	} {
		_, c := checkTaken(t, "constructors", families(given), rows(x.rows))
		if c.Whole || toldRow(c.Missing) != x.missing {
			t.Errorf("Compile(%s): %s, want missing %s", x.rows, toldCover(c), x.missing)
		}
	}
}

// TestFields: answers to their last field: what a kind does not have is zero.
func TestFields(t *testing.T) {
	l := [][]api.Pat{
		{wild, con("Cons", wild, api.Pat{Kind: api.PatInt, Name: "Nil", Args: []api.Pat{con("A")}})},
		{variable("x"), {Kind: api.PatVar, Num: 7, Name: "y"}},
		{variable("x"), con("Nil")},
		{variable("x"), con("Cons", wild, num(5))},
	}
	zero, one, fail := api.Tree{Kind: api.TreeRow}, api.Tree{Kind: api.TreeRow, Row: 1}, api.Tree{Kind: api.TreeFail}
	at := func(path []int, other []api.Tree, cases ...api.Case) api.Tree {
		return api.Tree{Kind: api.TreeSwitch, Path: path, Cases: cases, Else: other}
	}
	want := at([]int{1}, nil,
		api.Case{Con: "Nil", Then: one},
		api.Case{Con: "Cons", Then: at([]int{1, 1}, []api.Tree{one}, api.Case{Then: zero}, api.Case{Num: 5, Then: one})})
	tree, cover, code := match.Compile(families(given), l)
	if code != api.OK || !sameTree(tree, want) || !sameCover(cover, api.Coverage{Whole: true, Idle: []int{2, 3}}) {
		t.Error(toldTree(tree), toldCover(cover), code)
	}
	want = at([]int{1}, nil,
		api.Case{Con: "Nil", Then: one},
		api.Case{Con: "Cons", Then: at([]int{1, 1}, []api.Tree{fail}, api.Case{Then: zero})})
	missing := []api.Pat{{Kind: api.PatWild}, {Kind: api.PatCon, Name: "Cons", Args: []api.Pat{{Kind: api.PatWild}, {Kind: api.PatInt, Num: 1}}}}
	tree, cover, code = match.Compile(families(given), [][]api.Pat{l[0], l[2]})
	if code != api.OK || !sameTree(tree, want) || !sameCover(cover, api.Coverage{Missing: missing}) {
		t.Error(toldTree(tree), toldCover(cover), code)
	}
}

// TestNil: W5: nil lists and empty ones are the same.
func TestNil(t *testing.T) {
	empty := []api.Pat{{Kind: api.PatCon, Name: "Nil", Args: []api.Pat{}}}
	for _, l := range [][][]api.Pat{{{con("Nil")}}, {empty}, {empty, {con("Nil")}}} {
		tree, _ := checkTaken(t, "Nil", families(given), l)
		if toldTree(tree) != "at 0: (Nil: row 0; else fail)" {
			t.Error(toldTree(tree))
		}
	}
	for _, l := range [][][]api.Pat{{nil}, {{}}, {nil, {}}, {{}, nil}} {
		if tree, _ := checkTaken(t, "no columns", families(given), l); toldTree(tree) != "row 0" {
			t.Error(toldTree(tree))
		}
	}
	for _, fams := range [][]api.Family{nil, {}} {
		for _, l := range [][][]api.Pat{nil, {}} {
			tree, cover := checkTaken(t, "no rows", fams, l)
			if toldTree(tree) != "fail" || !sameCover(cover, api.Coverage{}) {
				t.Error(toldTree(tree), toldCover(cover))
			}
		}
	}
}
