package heap_test

import (
	"math"
	"slices"
	"testing"

	"sloth/api"
	"sloth/heap"
)

// seen is what can be seen of nodes from their roots: it asks the nodes alone, as anyone might who uses an arena.
type seen []api.Node

// over passes a place over: the number of the thing there, of a ring its least place.
func (s seen) over(at int) int {
	for range s { // behind so many NodeInds it is in the ring, if there is one
		if s[at].Kind != api.NodeInd {
			return at
		}
		at = s[at].Args[0]
	}
	least := at
	for x := s[at].Args[0]; x != at; x = s[x].Args[0] {
		least = min(least, x)
	}
	return least
}

// reached tells which things can be reached.
func (s seen) reached(roots []int) map[int]bool {
	found := map[int]bool{}
	wait := slices.Clone(roots)
	for len(wait) > 0 {
		at := s.over(wait[len(wait)-1])
		wait = wait[:len(wait)-1]
		if !found[at] {
			found[at] = true
			wait = append(wait, s[at].Args...)
		}
	}
	return found
}

// asOne: what can be seen from some roots of s is what can be seen from as many of u; two ways lead to one thing in the one just if they do in the other.
func (s seen) asOne(roots []int, u seen, others []int) bool {
	there, back := map[int]int{}, map[int]int{}
	type pair struct{ a, b int }
	var wait []pair
	lists := func(a, b []int) bool {
		for i := range min(len(a), len(b)) {
			wait = append(wait, pair{s.over(a[i]), u.over(b[i])})
		}
		return len(a) == len(b)
	}
	right := lists(roots, others)
	for right && len(wait) > 0 {
		p := wait[len(wait)-1]
		wait = wait[:len(wait)-1]
		b, metA := there[p.a]
		a, metB := back[p.b]
		if metA || metB {
			right = metA && metB && a == p.a && b == p.b
			continue
		}
		there[p.a], back[p.b] = p.b, p.a
		x, y := s[p.a], u[p.b]
		right = x.Kind == y.Kind && x.Num == y.Num && lists(x.Args, y.Args)
	}
	return right
}

// roots are places that are there.
func (m *maker) roots() []int {
	l := m.list(m.Intn(5))
	return slices.DeleteFunc(l, func(at int) bool { return !m.plain.place(at) })
}

// inStages calls do with arenas in which something was done, and with their nodes and some roots.
func inStages(t *testing.T, seed int64, do func(m *maker, nodes seen, roots []int)) {
	t.Helper()
	met := map[string]int{} // in what the roots lead to
	many(t, seed, 1500, map[string]int{}, func(m *maker) {
		for range 4 {
			m.grow(m.Intn(25))
			nodes, roots := all(t, m.arena), m.roots()
			(&plain{nodes: nodes, met: met}).reached(roots)
			do(m, nodes, roots)
			m.plain.nodes = all(t, m.arena) // so that the maker goes on with what is there
			m.plain.collections = m.arena.Collections()
		}
	})
	tooSeldom(t, met, 150, "a ring", "a ring from outside", "a ring of many", "a chain")
}

// TestSeen: P20.7: collecting changes nothing that can be seen from the roots.
func TestSeen(t *testing.T) {
	most := 0
	inStages(t, 11, func(m *maker, nodes seen, roots []int) {
		l, e := m.arena.Collect(roots)
		if behind := seen(all(t, m.arena)); e != api.OK || !nodes.asOne(roots, behind, l) {
			t.Fatal("Collect", roots, "of", nodes, "is", l, e, "with", behind)
		}
		most = max(most, m.arena.Used())
	})
	if most < 12 {
		t.Error("too little could be reached:", most)
	}
}

// TestAllReached: P20.8: behind a Collect every node can be reached, no NodeInd is there but rings of one, and one more Collect changes nothing.
func TestAllReached(t *testing.T) {
	rings := 0
	inStages(t, 12, func(m *maker, nodes seen, roots []int) {
		l, _ := m.arena.Collect(roots)
		behind := seen(all(t, m.arena))
		if len(behind.reached(l)) != len(behind) || len(behind) != len(nodes.reached(roots)) {
			t.Fatal("Collect", roots, "of", nodes, "is", l, "with", behind)
		}
		for at, n := range behind {
			if n.Kind == api.NodeInd {
				rings++
				if n.Args[0] != at {
					t.Fatal("Collect", roots, "of", nodes, "is", l, "with", behind)
				}
			}
		}
		times := m.arena.Collections()
		collect(t, m.arena, l, l...)
		holds(t, m.arena, behind...)
		collects(t, m.arena, times+1)
	})
	if rings < 100 {
		t.Error("too few rings:", rings)
	}
}

// TestRoomJust: P20.9: Room says ErrHeapRoom just if what can be reached and the new nodes are together more than size.
func TestRoomJust(t *testing.T) {
	met := map[api.Errno]int{}
	inStages(t, 13, func(m *maker, nodes seen, roots []int) {
		live := len(nodes.reached(roots))
		n := max(0, m.plain.size-live+m.Intn(4)-2)
		want := api.OK
		if live+n > m.plain.size {
			want = api.ErrHeapRoom
		}
		_, e := m.arena.Room(n, roots)
		if met[e]++; e != want {
			t.Fatal("Room", n, roots, "of", nodes, "is", e, "not", want)
		}
		for i := 0; e == api.OK && i < n; i++ { // there is room for so many
			add(t, m.arena, busy)
		}
		if _, e := m.arena.Room(math.MaxInt, nil); e != api.ErrHeapRoom {
			t.Fatal("Room of very many is", e)
		}
	})
	if met[api.OK] < 1000 || met[api.ErrHeapRoom] < 1000 {
		t.Error("met too seldom:", met)
	}
}

// TestTwoArenas: P20.10: two arenas that are used in turns are each as one that is used alone.
func TestTwoArenas(t *testing.T) {
	met := map[string]int{}
	for i := range int64(300) {
		a, b := newMaker(t, i, 12, met), newMaker(t, i+1000, 9, met)
		for range 60 {
			a.call()
			b.call()
			b.same("nothing", true)
			a.same("nothing", true)
		}
	}
}

// TestSameCalls: P20.10, W2: two arenas that are given the same calls in turns answer the same.
func TestSameCalls(t *testing.T) {
	a, b := arena(t, 5), arena(t, 5)
	for _, n := range []api.Node{num(1), con(2, 0, 0), app(1, 0), ind(2)} {
		for _, x := range []*heap.Arena{a, b} {
			add(t, x, n)
		}
	}
	collect(t, a, []int{3}, 0)
	holds(t, b, num(1), con(2, 0, 0), app(1, 0), ind(2))
	holds(t, a, app(1, 2), con(2, 2, 2), num(1))
	collects(t, b, 0)
	collect(t, b, []int{3}, 0)
	set(t, b, 0, num(9))
	holds(t, a, app(1, 2), con(2, 2, 2), num(1))
	collects(t, a, 1)
}
