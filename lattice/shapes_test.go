package lattice_test

import (
	"math/rand"
	"sync"

	"sloth/api"
)

// shapes is all types that have elements, one of each shape (there are so few that all can be asked), by the second form: numbers, lists, and functions of these. Behind them: the function types between each two of these that have too many elements.
var shapes = sync.OnceValues(func() (known, refused []api.Type) {
	known = []api.Type{number, list(number)}
	for done := 0; done < len(known); done++ {
		for other := 0; other <= done; other++ {
			pairs := []api.Type{fun(known[other], known[done]), fun(known[done], known[other])}
			if other == done {
				pairs = pairs[1:]
			}
			for _, f := range pairs {
				if plainOf(f) != nil {
					known = append(known, f)
				} else {
					refused = append(refused, f)
				}
			}
		}
	}
	return known, refused
})

// small is those of the shapes of which each pair of elements can be asked soon.
func small(nodes int) []api.Type {
	var l []api.Type
	known, _ := shapes()
	for _, t := range known {
		if plainNodes(t) <= nodes {
			l = append(l, t)
		}
	}
	return l
}

func pick[T any](r *rand.Rand, l ...T) T { return l[r.Intn(len(l))] }

// varied is a type of the same shape: other data types for numbers, lists of other things.
func varied(r *rand.Rand, t api.Type) api.Type {
	switch {
	case t.Kind == api.TyFun:
		return fun(varied(r, t.Args[0]), varied(r, t.Args[1]))
	case t.Kind == api.TyData:
		return list(whatever(r, 2))
	}
	l := []api.Type{number, data("Bool"), data("Unit"), data("M.List", whatever(r, 1)), data("M.List"), data("Nil"), data("L"), data("Bool", number)}
	return pick(r, append(l, data("Pair", whatever(r, 2), whatever(r, 1)), data("Triple", number, whatever(r, 1), data("M.T'_0")), data("M.Int"))...)
}

// whatever is an argument of a data type: what its elements are, or whether it has any, does not matter there.
func whatever(r *rand.Rand, depth int) api.Type {
	if depth == 0 {
		return pick(r, number, data("Bool"), data("List"), data("List", number, number))
	}
	depth--
	return pick(r, whatever(r, 0), fun(whatever(r, depth), whatever(r, depth)), data("T", whatever(r, depth), whatever(r, 0)), list(whatever(r, depth)), rightwards(5+r.Intn(3), number))
}
