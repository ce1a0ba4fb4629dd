package match

import (
	"slices"

	"sloth/api"
)

// coverage tells what the tree of some rows says of them.
func (k known) coverage(t api.Tree, rows [][]api.Pat) api.Coverage {
	met := make([]bool, len(rows))
	meet(t, met)
	var c api.Coverage
	for row, is := range met {
		if !is {
			c.Idle = append(c.Idle, row)
		}
	}
	way, fails := k.toFail(t)
	if !fails {
		c.Whole = true
	} else if len(rows) > 0 {
		c.Missing = missing(len(rows[0]), way)
	}
	return c
}

// meet marks the rows of which a tree has a TreeRow.
func meet(t api.Tree, met []bool) {
	if t.Kind == api.TreeRow {
		met[t.Row] = true
	}
	for _, c := range t.Cases {
		meet(c.Then, met)
	}
	for _, e := range t.Else {
		meet(e, met)
	}
}

// step is a switch that a way goes by: its path, and a pattern of what leaves it that way.
type step struct {
	path []int
	pat  api.Pat
}

// toFail tells the way to the first TreeFail, its last step first, and whether there is one.
func (k known) toFail(t api.Tree) ([]step, bool) {
	if t.Kind == api.TreeFail {
		return nil, true
	}
	for _, c := range t.Cases {
		if way, ok := k.toFail(c.Then); ok {
			return append(way, step{t.Path, k.patOf(c.Con, c.Num)}), true
		}
	}
	for _, e := range t.Else {
		if way, ok := k.toFail(e); ok {
			return append(way, step{t.Path, k.otherThan(t.Cases)}), true
		}
	}
	return nil, false
}

// patOf is the pattern of a constructor with nothing said of its fields, or (con "") of a number.
func (k known) patOf(con string, num int) api.Pat {
	if con == "" {
		return api.Pat{Kind: api.PatInt, Num: num}
	}
	return api.Pat{Kind: api.PatCon, Name: con, Args: wilds(k.cons[con].fields)}
}

// otherThan is the pattern of the first value that leaves a switch by its Else. The Cases stand in order, so that the first number, or place in the family, that they leave out is found by counting.
func (k known) otherThan(cases []api.Case) api.Pat {
	con, gap := cases[0].Con, 0
	for _, c := range cases {
		if con == "" && c.Num == gap || con != "" && k.cons[c.Con].place == gap {
			gap++
		}
	}
	if con == "" {
		return k.patOf("", gap)
	}
	return k.patOf(k.familyOf(con).Cons[gap], 0)
}

func wilds(n int) []api.Pat {
	l := make([]api.Pat, n)
	for i := range l {
		l[i].Kind = api.PatWild
	}
	return l
}

// missing is the patterns of the columns that a way says, from its first step on.
func missing(columns int, way []step) []api.Pat {
	l := wilds(columns)
	for _, s := range slices.Backward(way) {
		place := &l[s.path[0]]
		for _, field := range s.path[1:] {
			place = &place.Args[field]
		}
		*place = s.pat
	}
	return l
}
