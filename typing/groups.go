package typing

import (
	"container/heap"
	"sort"
)

// Groups deals definitions to groups, and tells these in the order in which they are worked out.
func Groups(defs []Definition) [][]Definition {
	needs := needsOf(defs)
	rings := ringsOf(needs)
	var groups [][]Definition
	for _, ring := range inOrder(rings, needs) {
		group := make([]Definition, len(ring))
		for i, d := range ring {
			group[i] = defs[d]
		}
		groups = append(groups, group)
	}
	return groups
}

// search finds the rings of definitions that need one another, as Tarjan does: each definition is come to once, and stays open till all that it needs was looked at; of a ring the first one that was come to closes all.
type search struct {
	needs  [][]int
	came   []int // when it was come to, from 1 on
	back   []int // the earliest open one that it is known to lead to, by when that was come to
	ring   []int // the number of its ring; -1, while there is none
	open   []int
	comers int
	rings  int
}

// ringsOf tells the rings, each one's definitions in their order, the rings by their first ones.
func ringsOf(needs [][]int) [][]int {
	n := len(needs)
	s := search{needs: needs, came: make([]int, n), back: make([]int, n), ring: make([]int, n)}
	for d := range needs {
		if s.came[d] == 0 {
			s.visit(d)
		}
	}
	places := make([]int, s.rings)
	var rings [][]int
	for d, r := range s.ring {
		if places[r] == 0 {
			rings = append(rings, nil)
			places[r] = len(rings)
		}
		rings[places[r]-1] = append(rings[places[r]-1], d)
	}
	return rings
}

func (s *search) visit(d int) {
	s.comers++
	s.came[d], s.back[d], s.ring[d] = s.comers, s.comers, -1
	s.open = append(s.open, d)
	for _, n := range s.needs[d] {
		switch {
		case s.came[n] == 0:
			s.visit(n)
			s.back[d] = min(s.back[d], s.back[n])
		case s.ring[n] < 0:
			s.back[d] = min(s.back[d], s.came[n])
		}
	}
	if s.back[d] == s.came[d] {
		s.close(d)
	}
}

// close makes a ring of all that are open from some definition on.
func (s *search) close(first int) {
	for d := -1; d != first; {
		last := len(s.open) - 1
		d = s.open[last]
		s.open = s.open[:last]
		s.ring[d] = s.rings
	}
	s.rings++
}

// queue holds numbers of which the least one leaves first.
type queue struct{ sort.IntSlice }

func (q *queue) Push(x any) { q.IntSlice = append(q.IntSlice, x.(int)) }

func (q *queue) Pop() any {
	last := q.Len() - 1
	x := q.IntSlice[last]
	q.IntSlice = q.IntSlice[:last]
	return x
}

// inOrder puts rings in order: always the first one of those that wait for none.
func inOrder(rings [][]int, needs [][]int) [][]int {
	waits, waiters := waitsOf(rings, needs)
	ready := &queue{}
	for r, n := range waits {
		if n == 0 {
			heap.Push(ready, r)
		}
	}
	var l [][]int
	for ready.Len() > 0 {
		r := heap.Pop(ready).(int)
		l = append(l, rings[r])
		for _, w := range waiters[r] {
			waits[w]--
			if waits[w] == 0 {
				heap.Push(ready, w)
			}
		}
	}
	return l
}

// waitsOf tells of each ring for how many names in it it waits, and by which rings it is waited for, as often.
func waitsOf(rings [][]int, needs [][]int) (waits []int, waiters [][]int) {
	ringOf := make([]int, len(needs))
	for r, ring := range rings {
		for _, d := range ring {
			ringOf[d] = r
		}
	}
	waits, waiters = make([]int, len(rings)), make([][]int, len(rings))
	for d, l := range needs {
		for _, n := range l {
			if r, other := ringOf[d], ringOf[n]; r != other {
				waits[r]++
				waiters[other] = append(waiters[other], r)
			}
		}
	}
	return waits, waiters
}
