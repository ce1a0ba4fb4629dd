package typing

import (
	"container/heap"
	"sort"

	"sloth/ring"
)

// Groups deals definitions to groups, and tells these in the order in which they are worked out.
func Groups(defs []Definition) [][]Definition {
	needs := needsOf(defs)
	rings := ring.Of(needs)
	var groups [][]Definition
	for _, members := range inOrder(rings, needs) {
		group := make([]Definition, len(members))
		for i, d := range members {
			group[i] = defs[d]
		}
		groups = append(groups, group)
	}
	return groups
}

// queue holds numbers of which the least one leaves first.
type queue struct{ sort.IntSlice }

func (q *queue) Push(x any) { q.IntSlice = append(q.IntSlice, x.(int)) }

func (q *queue) Pop() any {
	last := q.Len() - 1
	x := q.IntSlice[last]
	q.IntSlice = q.IntSlice[:last]
	return x
}

// inOrder puts rings in order: always the first one of those that wait for none.
func inOrder(rings [][]int, needs [][]int) [][]int {
	waits, waiters := waitsOf(rings, needs)
	ready := &queue{}
	for r, n := range waits {
		if n == 0 {
			heap.Push(ready, r)
		}
	}
	var l [][]int
	for ready.Len() > 0 {
		r := heap.Pop(ready).(int)
		l = append(l, rings[r])
		for _, w := range waiters[r] {
			waits[w]--
			if waits[w] == 0 {
				heap.Push(ready, w)
			}
		}
	}
	return l
}

// waitsOf tells of each ring for how many names in it it waits, and by which rings it is waited for, as often.
func waitsOf(rings [][]int, needs [][]int) (waits []int, waiters [][]int) {
	ringOf := make([]int, len(needs))
	for r, members := range rings {
		for _, d := range members {
			ringOf[d] = r
		}
	}
	waits, waiters = make([]int, len(rings)), make([][]int, len(rings))
	for d, l := range needs {
		for _, n := range l {
			if r, other := ringOf[d], ringOf[n]; r != other {
				waits[r]++
				waiters[other] = append(waiters[other], r)
			}
		}
	}
	return waits, waiters
}
