package match_test

import (
	"slices"
	"testing"

	"sloth/api"
)

// P7.1: what is refused, and which error counts.

// badFamilies are families that are not right, with what is wrong with them.
func badFamilies() map[string][]api.Family {
	const long = "A 0, B 0, C 0, D 0, E 0, F 0, G 0, H 0, I 0, J 0, K 0, L 0, M 0, N 0, O 0, P 0, Q 0, R 0, S 0, T 0, U 0, V 0, W 0, X 0"
	return map[string][]api.Family{
		"no constructor":              {{}},
		"no constructor, behind":      append(families(given), api.Family{Cons: []string{}, Fields: []int{}}),
		"MaxCons constructors, and 1": families(long + ", Y 0"),
		"that many, behind":           families("Nil 0 | " + long + ", Y 0"),
		"a number more":               {{Cons: []string{"A"}, Fields: []int{0, 0}}},
		"a number less":               {{Cons: []string{"A", "B"}, Fields: []int{0}}},
		"no numbers":                  {{Cons: []string{"A"}}},
		"no names":                    {{Fields: []int{0}}},
		"MaxFields fields, and 1":     families("A 0, B 9"),
		"very many fields":            {{Cons: []string{"A"}, Fields: []int{1<<63 - 1}}},
		"-1 fields":                   families("A 0, B -1"),
		"very few fields":             {{Cons: []string{"A"}, Fields: []int{-1 << 63}}},
		"an empty name":               {{Cons: []string{""}, Fields: []int{0}}},
		"an empty name, behind":       {{Cons: []string{"A", ""}, Fields: []int{0, 0}}},
		"twice in one":                families("A 0, B 0, A 0"),
		"twice in one, unlike":        families("A 0, A 1"),
		"twice in two":                families("A 0, B 0 | C 0, B 0"),
		"twice in two, unlike":        families("A 0 | A 1"),
		"twice, far away":             families("A 0 | B 0 | C 0 | D 0 | A 0"),
	}
}

func TestBadFamilies(t *testing.T) {
	for what, fams := range badFamilies() {
		for _, text := range []string{"", ".", "_", "1", "A", "1 | _, _", "nobody | 1"} {
			checkRefused(t, what, fams, rows(text), api.ErrMatchTable)
		}
		checkRefused(t, what, fams, [][]api.Pat{{{}}}, api.ErrMatchTable)
		checkRefused(t, what, fams, [][]api.Pat{{chain(api.MaxTree+5, "K", wild)}}, api.ErrMatchTable)
	}
}

// badRows are rows that are not right, by the given families.
func badRows() map[string][][]api.Pat {
	bad := map[string][][]api.Pat{
		"kind 0":              {{{}}},
		"kind 5":              {{{Kind: 5}}},
		"kind -1":             {{{Kind: -1, Name: "Nil"}}},
		"kind 5, in a field":  {{con("C", api.Pat{Kind: 5})}},
		"kind 0, in an idle":  {{wild}, {{}}},
		"below MinInt":        {{num(api.MinInt - 1)}},
		"above MaxInt":        {{num(api.MaxInt + 1)}},
		"far below":           {{num(-1 << 63)}},
		"above, in a field":   {{con("K", num(1<<63-1))}},
		"Args of a wild one":  {{{Kind: api.PatWild, Args: []api.Pat{con("A")}}, con("nobody")}},
		"nil and an Arg":      {{con("Nil", wild)}},
		"a name of no letter": {{con("")}},
		"a row of none":       {{wild}, nil},
	}
	for _, text := range []string{
		"Nobody", "Cons", "Cons _", "Cons _ _ _", "A _", "C", "C _ _", "T _ _", "U U", "K (Nobody)", "Cons _ (Cons _)", "K (K (K (Nil 1)))",
		"_ | _, _", "_, _ | _", "_ | . | _", ". | _", "1 | 2 | 3, 4", "_, _ | _, _ | _, _, _",
		"1 | Nil", "Nil | 1", "_ | 1 | _ | Nil", "Nil | A", "A | _ | Nil", "A | B | True", "_ | 1 | U",
		"_, 1 | _, A", "_, _, Nil | _, _, K _",
		"Cons 1 _ | Cons Nil _", "Cons _ 1 | Cons _ Nil", "C (C 1) | C (C A)", "T _ _ (K 1) | T _ _ (K U)", "K (L 1) | K (L Nil)", "L 1 | R 1 | L A",
		// in rows that no vector has, behind constructors that no way sees
		"_ | 1 | A", "x, y | K 1, _ | K U, _", "1, _ | 1, C 1 | 1, C A", "A | A | C 1 | C U", "_ | Cons _",
	} {
		bad[text] = rows(text)
	}
	return bad
}

func TestBadRows(t *testing.T) {
	for what, l := range badRows() {
		checkRefused(t, what, families(given), l, api.ErrMatchRow)
	}
	// a constructor is there only if its family is
	checkRefused(t, "no families", nil, rows("A"), api.ErrMatchRow)
	checkRefused(t, "another family", families("Nil 0, Cons 2"), rows("A"), api.ErrMatchRow)
	checkRefused(t, "another number of fields", families("Nil 0, Cons 1"), rows("Cons _ _"), api.ErrMatchRow)
}

// TestRightRows: what looks alike, but is right.
func TestRightRows(t *testing.T) {
	for _, text := range []string{
		"L 1 | R Nil | L 2 | R (Cons _ _)", "C 1, C Nil | C 2, C (Cons _ _)", "C (C 1) | C (C 2)", "K (L 1) | K (R Nil)",
		"_, 1 | A, _ | _, 2 | B, 3", "x | x", "x, x | x, y", "T 1 A Nil | T 2 _ _", "T (K 1) (K A) (K Nil)",
	} {
		checkTaken(t, "right rows", families(given), rows(text))
	}
	deep := chain(2*api.MaxTree, "K", wild)
	for what, p := range map[string]api.Pat{
		"Args of a number":    {Kind: api.PatInt, Num: 1, Args: []api.Pat{{}, deep}},
		"Name of a number":    {Kind: api.PatInt, Name: "Nil"},
		"no name of a number": {Kind: api.PatInt, Name: "nobody"},
		"Args of a variable":  {Kind: api.PatVar, Args: []api.Pat{con("nobody"), deep}},
		"Num of a variable":   {Kind: api.PatVar, Num: -1 << 63},
		"a variable without":  {Kind: api.PatVar},
		"a variable A":        {Kind: api.PatVar, Name: "A"},
		"a wild one's fields": {Kind: api.PatWild, Name: "Nil", Num: api.MaxInt + 1, Args: []api.Pat{{}, deep}},
	} {
		checkTaken(t, what, families(given), [][]api.Pat{{p}, {num(3)}})
		checkTaken(t, what, families(given), [][]api.Pat{{con("C", p)}, {con("C", num(3))}, {con("A")}})
	}
	checkTaken(t, "Num of a constructor", families(given), [][]api.Pat{{{Kind: api.PatCon, Name: "A", Num: 1<<63 - 1}}, {con("B")}})
}

// TestOrder: of two errors the first counts.
func TestOrder(t *testing.T) {
	fams := families(given)
	badFams := families("A 0 | A 0")
	right := []api.Pat{num(1)}
	long := times(api.MaxRows+1, right)
	wide := times(3, times(api.MaxColumns+1, wild))
	big := bigRows()
	deep := [][]api.Pat{{chain(api.MaxNest, "K", wild)}}
	for _, l := range [][][]api.Pat{long, wide, slices.Concat(times(api.MaxRows, right), [][]api.Pat{{{}}}), {{con("nobody")}, wide[0]}, {wide[0], right}, slices.Concat(long, wide, deep)} {
		checkRefused(t, "too long, and the families", badFams, l, api.ErrLong)
		checkRefused(t, "too long", fams, l, api.ErrLong)
	}
	for _, l := range [][][]api.Pat{{{{}}}, big, deep, slices.Concat(big, deep)} {
		checkRefused(t, "the families, and the rows", badFams, l, api.ErrMatchTable)
	}
	checkRefused(t, "great alone", fams, big, api.ErrBig)
	checkRefused(t, "deep alone", fams, deep, api.ErrNest)
	checkRefused(t, "wrong and great", fams, append(slices.Clone(big), []api.Pat{num(1), con("nobody")}), api.ErrMatchRow)
	checkRefused(t, "wrong and great", fams, append(slices.Clone(big), []api.Pat{num(1)}), api.ErrMatchRow)
	checkRefused(t, "wrong and deep", fams, append(slices.Clone(deep), []api.Pat{con("K", con("nobody"))}), api.ErrMatchRow)
	checkRefused(t, "wrong far inside", fams, [][]api.Pat{{chain(api.MaxTree+9, "K", con("nobody"))}}, api.ErrMatchRow)
	checkRefused(t, "wrong far inside", fams, [][]api.Pat{{chain(api.MaxNest+9, "K", num(1))}, {chain(api.MaxNest+9, "K", con("A"))}}, api.ErrMatchRow)
	checkRefused(t, "great and deep", fams, [][]api.Pat{{chain(api.MaxTree, "K", wild)}}, api.ErrBig)
	var both [][]api.Pat
	for _, row := range big {
		both = append(both, append(slices.Clone(row), chain(api.MaxNest, "K", wild)))
	}
	checkRefused(t, "great and deep", fams, both, api.ErrBig)
}
