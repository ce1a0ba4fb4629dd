package strict

import (
	"slices"

	"sloth/api"
	"sloth/ring"
)

// group is definitions that need one another, or one alone.
type group struct {
	defs  []*definition
	loops bool // a body in it speaks of one of them
}

func newGroup(defs []*definition, places []int) *group {
	g := &group{}
	for _, at := range places {
		g.defs = append(g.defs, defs[at])
	}
	g.loops = len(places) > 1 || slices.Contains(g.defs[0].needs, places[0])
	return g
}

func needs(defs []*definition) [][]int {
	l := make([][]int, len(defs))
	for i, d := range defs {
		l[i] = d.needs
	}
	return l
}

// know finds out which definitions are known.
func know(defs []*definition) {
	left := api.MaxWork
	for _, places := range ring.Of(needs(defs)) {
		g := newGroup(defs, places)
		work := g.work()
		if work > left || slices.ContainsFunc(g.defs, hasManyPoints) {
			continue
		}
		left -= work
		for _, d := range g.defs {
			d.known = true
		}
	}
}

func hasManyPoints(d *definition) bool { return d.points > api.MaxPoints }

// work is how much it takes at most to work the tables of a group out.
func (g *group) work() int {
	once, rounds := 0, 1
	for _, d := range g.defs {
		once = plus(once, times(d.weight, d.points))
		rounds = plus(rounds, times(d.points, d.result.greatest()))
	}
	if g.loops {
		return times(once, rounds)
	}
	return once
}

// levels deals the groups of definitions so that each stands behind all that it needs; those of one level don't need one another.
func levels(defs []*definition) [][]*group {
	var levels [][]*group
	above := make([]int, len(defs)) // how many levels there are up to that of a definition's group, with it
	for _, places := range ring.Behind(needs(defs)) {
		g := newGroup(defs, places)
		level := 0
		for _, d := range g.defs {
			for _, at := range d.needs {
				level = max(level, above[at]) // of the group's own it is 0 as yet
			}
		}
		if level == len(levels) {
			levels = append(levels, nil)
		}
		levels[level] = append(levels[level], g)
		for _, at := range places {
			above[at] = level + 1
		}
	}
	return levels
}
