package strict

import (
	"slices"
	"sync"

	"sloth/api"
)

// workers is how many goroutines work at one time at most.
const workers = 8

// found is the signature of the definition at a place.
type found struct {
	place int
	is    api.Signature
}

// workedOut tells the signatures of all definitions. The groups of one level are worked out at one time: each reads the tables of the levels ahead, and lays its own alone.
func workedOut(defs []*definition) []api.Signature {
	all := make(chan found, len(defs)) // there is room for all: nobody waits
	for _, level := range levels(defs) {
		var joined sync.WaitGroup
		for some := range slices.Chunk(level, (len(level)+workers-1)/workers) {
			joined.Go(func() { tell(some, all) })
		}
		joined.Wait()
	}
	close(all)
	signatures := make([]api.Signature, len(defs))
	for f := range all {
		signatures[f.place] = f.is
	}
	return signatures
}

// tell works groups out and sends what was found.
func tell(groups []*group, to chan<- found) {
	for _, g := range groups {
		if g.defs[0].known {
			g.workOut()
		}
		for _, d := range g.defs {
			to <- found{d.place, d.signature()}
		}
	}
}

// workOut lets the tables of a group rise from 0, all at one time, till none changes.
func (g *group) workOut() {
	for _, d := range g.defs {
		d.results = make([]int, d.points)
	}
	for changed := true; changed; {
		changed = g.rise() && g.loops
	}
}

// rise works all tables out anew from those that there are, and tells whether one has changed.
func (g *group) rise() bool {
	made := make([][]int, len(g.defs))
	for i, d := range g.defs {
		made[i] = d.round()
	}
	changed := false
	for i, d := range g.defs {
		changed = changed || !slices.Equal(made[i], d.results)
		d.results = made[i]
	}
	return changed
}
