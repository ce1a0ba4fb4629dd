package fixity

import (
	"strings"

	"sloth/api"
)

// Levels are the numbers below this one.
const levels = 10

// fixities stand by the names of their operators in Bind's answer.
type fixities map[string]api.Fixity

// know tells all fixities: those that modules declare, and those of what is built in.
func know(told []api.Fixity) fixities {
	known := fixities{}
	for _, group := range [...]struct {
		ops          string
		assoc, level int
	}{
		{"* / %", api.AssocLeft, 7},
		{"+ -", api.AssocLeft, 6},
		{"Cons", api.AssocRight, 5},
		{"== /= < <= > >=", api.AssocNone, 4},
	} {
		for _, op := range strings.Fields(group.ops) {
			known[op] = api.Fixity{Op: op, Assoc: group.assoc, Level: group.level}
		}
	}
	for _, f := range told {
		known[f.Op] = f
	}
	return known
}

// of tells the fixity of each operator of a row, at its place.
func (known fixities) of(row []api.Term) []api.Fixity {
	l := make([]api.Fixity, len(row))
	for at := 1; at < len(row); at += 2 {
		f, ok := known[row[at].Name]
		if !ok {
			f = api.Fixity{Op: row[at].Name, Assoc: api.AssocLeft, Level: levels - 1}
		}
		l[at] = f
	}
	return l
}

// plan tells the places of a row in the order in which its tree is made: each operator behind all that it holds together, so that the root is the last. If the row has no tree, it is false.
func (known fixities) plan(row []api.Term) ([]int, bool) {
	fixes := known.of(row)
	order := make([]int, 0, len(row))
	// The weakest operators are handed on to the side where the others of them are left, so that no operator is looked at again for each of those beside it.
	var read func(from, to int, weakest []int) bool
	read = func(from, to int, weakest []int) bool {
		if to == from+1 {
			order = append(order, from)
			return true
		}
		if len(weakest) == 0 {
			weakest = weakestOf(fixes, from, to)
		}
		if len(weakest) == 0 {
			return false
		}
		root, ahead, behind := part(fixes, weakest)
		if !read(from, root, ahead) || !read(root+1, to, behind) {
			return false
		}
		order = append(order, root)
		return true
	}
	ok := read(0, len(row), nil)
	return order, ok
}

// weakestOf finds the places of the weakest operators of a row that has some. If they do not go together, it tells none.
func weakestOf(fixes []api.Fixity, from, to int) []int {
	var found []int
search:
	for level := range levels {
		for at := from + 1; at < to; at += 2 {
			if fixes[at].Level != level {
				continue
			}
			if len(found) > 0 && !together(fixes[found[0]], fixes[at]) {
				found = nil
				break search
			}
			found = append(found, at)
		}
		if len(found) > 0 {
			break search
		}
	}
	return found
}

// together tells whether two operators of one level may stand beside each other.
func together(a, b api.Fixity) bool {
	return a.Assoc == b.Assoc && a.Assoc != api.AssocNone
}

// part tells which of the weakest operators is the root, and which of them stand ahead of it and behind it.
func part(fixes []api.Fixity, weakest []int) (root int, ahead, behind []int) {
	if last := len(weakest) - 1; fixes[weakest[last]].Assoc == api.AssocLeft {
		return weakest[last], weakest[:last], nil
	}
	return weakest[0], nil, weakest[1:]
}

// grow makes the tree of a row by its plan.
func grow(row []api.Term, order []int) api.Term {
	var made []api.Term
	for _, at := range order {
		if at%2 == 0 {
			made = append(made, row[at])
			continue
		}
		ahead, behind := len(made)-2, len(made)-1
		call := apply(apply(row[at], made[ahead]), made[behind])
		made = append(made[:ahead], call)
	}
	return made[0]
}

func apply(function, argument api.Term) api.Term {
	return api.Term{Kind: api.TermApp, Args: []api.Term{function, argument}}
}
