package match

import (
	"slices"

	"sloth/api"
)

// spot is a pattern that is not wild, and the number of its row.
type spot struct {
	row int
	pat *api.Pat
}

// line is patterns that stand side by side in a row.
type line struct {
	row  int
	pats []api.Pat
}

// column is a place at which the patterns of some rows are not wild. Rows that have no spot there are wild there, so that they need not be touched when it gives place to others.
type column struct {
	around []int // the path of what it is a field of
	number int
	spots  []spot            // by their rows, rising
	has    [api.MaxRows]bool // by rows: has it a spot of that row
}

// columnsOf makes columns of lines that are equally wide, but for columns in which all are wild: no switch ever looks at these.
func columnsOf(around []int, width int, lines []line) []*column {
	var l []*column
	for number := range width {
		c := &column{around: around, number: number}
		for _, line := range lines {
			if p := &line.pats[number]; !isWild(p) {
				c.spots = append(c.spots, spot{row: line.row, pat: p})
				c.has[line.row] = true
			}
		}
		if len(c.spots) > 0 {
			l = append(l, c)
		}
	}
	return l
}

func isWild(p *api.Pat) bool {
	return p.Kind == api.PatWild || p.Kind == api.PatVar
}

// of tells the spots of some rows.
func (c *column) of(rows []int) []spot {
	var l []spot
	for _, s := range c.spots {
		if _, ok := slices.BinarySearch(rows, s.row); ok {
			l = append(l, s)
		}
	}
	return l
}

// split parts the spots that a Case is of from all others.
func split(spots []spot, c api.Case) (met, others []spot) {
	for _, s := range spots {
		if c.Con == "" && s.pat.Num == c.Num || c.Con != "" && s.pat.Name == c.Con {
			met = append(met, s)
		} else {
			others = append(others, s)
		}
	}
	return met, others
}

// without is the rows but for those of the spots.
func without(rows []int, spots []spot) []int {
	for _, s := range spots {
		at, _ := slices.BinarySearch(rows, s.row)
		rows = cut(rows, at)
	}
	return rows
}

// cut takes one thing out of a list, and puts others in its place. The list itself stays as it is.
func cut[T any](list []T, at int, others ...T) []T {
	return slices.Concat(list[:at], others, list[at+1:])
}

// join makes a path that leads on from another one.
func join(path []int, numbers ...int) []int {
	return slices.Concat(path, numbers)
}
