package strict

import "sloth/api"

// Inside is what a definition is found to be, beside its signature.
type Inside struct {
	Weight, Points int // up to one more than MaxWork
	Table          []int
}

// Look tells it of each definition of a lifted program. A table's points stand in the order of their elements, the last parameter's the fastest.
func Look(p api.Program) []Inside {
	defs := built(p)
	know(defs)
	workedOut(defs)
	l := make([]Inside, len(defs))
	for i, d := range defs {
		l[i] = Inside{d.weight, d.points, d.results}
	}
	return l
}
