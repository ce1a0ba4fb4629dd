// Package ring: rings of things that need one another, whatever the things are.
package ring

import "slices"

// search finds rings as Tarjan does: each thing is come to once, and stays open till all that it needs was looked at; of a ring the first one that was come to closes all.
type search struct {
	needs  [][]int
	came   []int // when it was come to, from 1 on
	back   []int // the earliest open one that it is known to lead to, by when that was come to
	ring   []int // the number of its ring; -1, while there is none
	open   []int
	comers int
	rings  int
}

// Of tells the rings of things, each of which needs some others (by their numbers): each one's things in their order, the rings by their first ones. A thing that no other one leads back to is a ring of its own.
func Of(needs [][]int) [][]int {
	rings := Behind(needs)
	slices.SortFunc(rings, func(a, b []int) int { return a[0] - b[0] })
	return rings
}

// Behind tells the same rings, each behind all those whose things its own need.
func Behind(needs [][]int) [][]int {
	n := len(needs)
	s := search{needs: needs, came: make([]int, n), back: make([]int, n), ring: make([]int, n)}
	for d := range needs {
		if s.came[d] == 0 {
			s.visit(d)
		}
	}
	rings := make([][]int, s.rings) // their numbers tell the order in which they were closed
	for d, r := range s.ring {
		rings[r] = append(rings[r], d)
	}
	return rings
}

func (s *search) visit(d int) {
	s.comers++
	s.came[d], s.back[d], s.ring[d] = s.comers, s.comers, -1
	s.open = append(s.open, d)
	for _, n := range s.needs[d] {
		switch {
		case s.came[n] == 0:
			s.visit(n)
			s.back[d] = min(s.back[d], s.back[n])
		case s.ring[n] < 0:
			s.back[d] = min(s.back[d], s.came[n])
		}
	}
	if s.back[d] == s.came[d] {
		s.close(d)
	}
}

// close makes a ring of all that are open from some thing on.
func (s *search) close(first int) {
	for d := -1; d != first; {
		last := len(s.open) - 1
		d = s.open[last]
		s.open = s.open[:last]
		s.ring[d] = s.rings
	}
	s.rings++
}
