package strict

import (
	"slices"

	"sloth/api"
	"sloth/lattice"
)

// order is the elements of a type, as lattice tells them.
type order struct {
	number   int      // among the orders of a program
	typ      api.Type // one that has these elements
	size     int      // an unknown type has one element
	from, to *order   // of functions
	results  [][]int  // of functions: what each makes of each element, in the order of the lists
}

// isKnown: a type that lattice knows has two elements or more.
func (o *order) isKnown() bool { return o.size > 1 }

// isPlain: a known type that is no function type. Of such a one alone 0 is nothing, and nothing else.
func (o *order) isPlain() bool { return o.isKnown() && o.from == nil }

func (o *order) greatest() int { return o.size - 1 }

// below tells whether an element is below another one, or the same.
func (o *order) below(a, b int) bool {
	if o.from == nil {
		return a <= b
	}
	return slices.EqualFunc(o.results[a], o.results[b], o.to.below)
}

func (o *order) join(a, b int) int {
	if o.from == nil {
		return max(a, b)
	}
	results := make([]int, o.from.size)
	for x := range results {
		results[x] = o.to.join(o.results[a][x], o.results[b][x])
	}
	return o.find(results)
}

// find is the function with these results.
func (o *order) find(results []int) int {
	f, _ := slices.BinarySearchFunc(o.results, results, slices.Compare)
	return f
}

// learn asks for the results of all functions. A call of lattice begins anew each time, and where functions take many elements, their edges tell the results in far fewer calls.
func (o *order) learn() {
	for f := range o.size {
		results := make([]int, o.from.size)
		for v := 1; v < o.to.size; v++ {
			edge, _ := lattice.Edge(o.typ, f, v)
			for x := range results {
				if slices.ContainsFunc(edge, func(y int) bool { return o.from.below(y, x) }) {
					results[x] = v // whatever else is below the result has a lesser number
				}
			}
		}
		o.results = append(o.results, results)
	}
}
