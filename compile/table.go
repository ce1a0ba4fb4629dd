package compile

import (
	"maps"
	"slices"
	"strings"

	"sloth/api"
)

// builtIn is how many shapes stand first in every table.
const builtIn = api.ShapeTriple + 1

// table is what was made: numbers are those of names in their order from now on.
func (m *maker) table() api.Table {
	m.nameFunctions()
	globals, globalPlaces := byName(m.globals, func(g api.Global) string { return g.Name })
	others, otherPlaces := byName(m.shapes[builtIn:], func(s api.Shape) string { return s.Name })
	shapePlaces := make([]int, len(m.shapes))
	for i := range shapePlaces {
		shapePlaces[i] = i
		if i >= builtIn {
			shapePlaces[i] = builtIn + otherPlaces[i-builtIn]
		}
	}
	for i := range globals {
		renumber(globals[i].Code, globalPlaces, shapePlaces)
	}
	return api.Table{Shapes: slices.Concat(m.shapes[:builtIn], others), Globals: globals}
}

// nameFunctions names the constructors that are functions, when all other globals have their names.
func (m *maker) nameFunctions() {
	taken := map[string]struct{}{}
	for i := range m.globals {
		taken[m.globals[i].Name] = struct{}{}
	}
	for _, con := range slices.Sorted(maps.Keys(m.functions)) {
		name := con
		for {
			if _, isTaken := taken[name]; !isTaken {
				break
			}
			name += "'"
		}
		taken[name] = struct{}{}
		m.globals[m.functions[con]].Name = name
	}
}

// byName is a list sorted by names, and the place of each of its elements there.
func byName[T any](l []T, name func(T) string) (sorted []T, places []int) {
	order := make([]int, len(l))
	for i := range order {
		order[i] = i
	}
	slices.SortFunc(order, func(a, b int) int { return strings.Compare(name(l[a]), name(l[b])) })
	places = make([]int, len(l))
	for at, was := range order {
		sorted = append(sorted, l[was])
		places[was] = at
	}
	return sorted, places
}

// renumber puts new numbers of globals and shapes in the places of those with which a code was laid.
func renumber(code []api.Instr, globals, shapes []int) {
	for i := range code {
		switch x := &code[i]; x.Op {
		case api.OpGlobal:
			x.A = globals[x.A]
		case api.OpPack, api.OpSplit, api.OpTestCon:
			x.A = shapes[x.A]
		}
	}
}
