package match_test

import (
	"fmt"
	"slices"
	"strconv"
	"strings"
	"testing"

	"sloth/api"
	"sloth/match"
)

// The pieces of which inputs are made here.

var wild = api.Pat{Kind: api.PatWild}

func variable(name string) api.Pat { return api.Pat{Kind: api.PatVar, Name: name} }

func num(n int) api.Pat { return api.Pat{Kind: api.PatInt, Num: n} }

func con(name string, args ...api.Pat) api.Pat {
	return api.Pat{Kind: api.PatCon, Name: name, Args: args}
}

// chain is a pattern with so many of a constructor of one field around another one.
func chain(n int, name string, p api.Pat) api.Pat {
	for range n {
		p = con(name, p)
	}
	return p
}

func times[T any](n int, x T) []T { return slices.Repeat([]T{x}, n) }

// families reads "Nil 0, Cons 2 | A 0": a family each.
func families(text string) []api.Family {
	var l []api.Family
	for _, part := range pieces(text, " | ") {
		var f api.Family
		for _, c := range pieces(part, ", ") {
			name, fields, _ := strings.Cut(c, " ")
			n, _ := strconv.Atoi(fields)
			f.Cons, f.Fields = append(f.Cons, name), append(f.Fields, n)
		}
		l = append(l, f)
	}
	return l
}

func pieces(text, between string) []string {
	if text == "" {
		return nil
	}
	return strings.Split(text, between)
}

// given are the families of most tests: those of the chapter's examples, and some more.
const given = "Nil 0, Cons 2 | A 0, B 0, C 1 | L 1, R 1 | K 1 | T 3 | U 0 | False 0, True 0"

// rows reads "Cons x Nil, 3 | _, y": the rows, and the patterns of each. A point is a row without patterns.
func rows(text string) [][]api.Pat {
	var l [][]api.Pat
	for _, part := range pieces(text, " | ") {
		row := []api.Pat{}
		for _, p := range pieces(strings.TrimSuffix(part, "."), ", ") {
			words := strings.Fields(strings.NewReplacer("(", " ( ", ")", " ) ").Replace(p))
			row = append(row, readPat(&words))
		}
		l = append(l, row)
	}
	return l
}

// readPat reads a pattern, till the words or its brackets end.
func readPat(words *[]string) api.Pat {
	p := readAtom(words)
	for len(*words) > 0 && (*words)[0] != ")" {
		p.Args = append(p.Args, readAtom(words))
	}
	return p
}

func readAtom(words *[]string) api.Pat {
	word := (*words)[0]
	*words = (*words)[1:]
	n, err := strconv.Atoi(word)
	switch {
	case word == "(":
		p := readPat(words)
		*words = (*words)[1:]
		return p
	case word == "_":
		return wild
	case err == nil:
		return num(n)
	case 'a' <= word[0] && word[0] <= 'z':
		return variable(word)
	}
	return con(word)
}

// toldTree writes a tree as the chapter's examples do.
func toldTree(t api.Tree) string {
	switch t.Kind {
	case api.TreeFail:
		return "fail"
	case api.TreeRow:
		return fmt.Sprint("row ", t.Row)
	}
	var parts []string
	for _, c := range t.Cases {
		name := c.Con
		if name == "" {
			name = fmt.Sprint(c.Num)
		}
		parts = append(parts, name+": "+toldTree(c.Then))
	}
	for _, e := range t.Else {
		parts = append(parts, "else "+toldTree(e))
	}
	return "at " + strings.Trim(fmt.Sprint(t.Path), "[]") + ": (" + strings.Join(parts, "; ") + ")"
}

func toldPat(p api.Pat) string {
	switch p.Kind {
	case api.PatWild:
		return "_"
	case api.PatVar:
		return p.Name
	case api.PatInt:
		return fmt.Sprint(p.Num)
	}
	s := p.Name
	for _, a := range p.Args {
		if len(a.Args) > 0 {
			s += " (" + toldPat(a) + ")"
		} else {
			s += " " + toldPat(a)
		}
	}
	return s
}

func toldRow(row []api.Pat) string {
	var parts []string
	for _, p := range row {
		parts = append(parts, toldPat(p))
	}
	return strings.Join(parts, ", ")
}

func toldRows(l [][]api.Pat) string {
	var parts []string
	for _, row := range l {
		parts = append(parts, toldRow(row))
	}
	return short(strings.Join(parts, " | "))
}

// toldCover writes "whole", or what is missing; and what is idle.
func toldCover(c api.Coverage) string {
	var parts []string
	if c.Whole {
		parts = append(parts, "whole")
	}
	if len(c.Missing) > 0 {
		parts = append(parts, "missing "+toldRow(c.Missing))
	}
	if len(c.Idle) > 0 {
		parts = append(parts, "idle "+strings.Trim(fmt.Sprint(c.Idle), "[]"))
	}
	return strings.Join(parts, "; ")
}

func short(s string) string {
	if len(s) > 1500 {
		return s[:700] + " .. " + s[len(s)-700:]
	}
	return s
}

// A nil list and an empty one are the same (W5).

func sameTree(a, b api.Tree) bool {
	return a.Kind == b.Kind && a.Row == b.Row && slices.Equal(a.Path, b.Path) && slices.EqualFunc(a.Cases, b.Cases, sameCase) && slices.EqualFunc(a.Else, b.Else, sameTree)
}

func sameCase(a, b api.Case) bool {
	return a.Con == b.Con && a.Num == b.Num && sameTree(a.Then, b.Then)
}

func samePat(a, b api.Pat) bool {
	return a.Kind == b.Kind && a.Name == b.Name && a.Num == b.Num && slices.EqualFunc(a.Args, b.Args, samePat)
}

func sameCover(a, b api.Coverage) bool {
	return a.Whole == b.Whole && slices.Equal(a.Idle, b.Idle) && slices.EqualFunc(a.Missing, b.Missing, samePat)
}

// checkTree: Compile tells this tree and this coverage, of families and rows as texts.
func checkTree(t *testing.T, fams, text, tree, cover string) {
	t.Helper()
	got, c, code := match.Compile(families(fams), rows(text))
	if code != api.OK || toldTree(got) != tree || toldCover(c) != cover {
		t.Errorf("Compile(%s): %s\n%s, %v\nwant %s\n%s", short(text), short(toldTree(got)), toldCover(c), code, short(tree), cover)
	}
}

// checkTaken: Compile takes these rows.
func checkTaken(t *testing.T, what string, fams []api.Family, l [][]api.Pat) (api.Tree, api.Coverage) {
	t.Helper()
	tree, c, code := match.Compile(fams, l)
	if code != api.OK || tree.Kind == 0 {
		t.Errorf("%s: Compile(%s): %v, want a tree", what, toldRows(l), code)
	}
	return tree, c
}

// checkRefused: Compile answers this error, and nothing beside it.
func checkRefused(t *testing.T, what string, fams []api.Family, l [][]api.Pat, want api.Errno) {
	t.Helper()
	tree, c, code := match.Compile(fams, l)
	if code != want || !sameTree(tree, api.Tree{}) || !sameCover(c, api.Coverage{}) {
		t.Errorf("%s: Compile(%s): %v, with %s, %s\nwant %v", what, toldRows(l), code, short(toldTree(tree)), toldCover(c), want)
	}
}
