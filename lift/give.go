package lift

import (
	"maps"
	"slices"

	"sloth/api"
	"sloth/ring"
)

// give finds out what each function is given; false, if that is so much that, with its own lambdas, there are too many. Functions that need one another are given the same; what they need beside that is known ahead of them.
func (s *survey) give() bool {
	given := map[int]*local{}
	for _, places := range ring.Behind(s.needs()) {
		clear(given)
		for _, at := range places {
			s.functions[at].gather(given)
		}
		if len(given) >= api.MaxArity {
			return false
		}
		list := inOrder(given)
		for _, at := range places {
			s.functions[at].given = list
		}
	}
	return true
}

// needs tells of each function which others it needs.
func (s *survey) needs() [][]int {
	needs := make([][]int, len(s.functions))
	for i, f := range s.functions {
		for _, g := range f.needs {
			needs[i] = append(needs[i], g.place-1)
		}
	}
	return needs
}

// gather puts together what a function is given, by the locals' numbers.
func (f *function) gather(given map[int]*local) {
	for _, l := range f.speaks {
		given[l.number] = l
	}
	for _, g := range f.needs {
		for _, l := range g.given {
			given[l.number] = l
		}
	}
}

func inOrder(given map[int]*local) []*local {
	list := make([]*local, 0, len(given))
	for _, number := range slices.Sorted(maps.Keys(given)) {
		list = append(list, given[number])
	}
	return list
}
