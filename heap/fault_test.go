package heap_test

import (
	"fmt"
	"math"
	"slices"
	"sync"
	"testing"

	"sloth/api"
	"sloth/heap"
)

// wrongNodes are nodes that may not be.
func wrongNodes() []api.Node {
	var l []api.Node
	for _, kind := range []int{0, -1, 9, 255, 257, 256 + api.NodeCon, 1<<32 + api.NodeInt, math.MaxInt, math.MinInt} {
		l = append(l, api.Node{Kind: kind}, api.Node{Kind: kind, Args: []int{0}})
	}
	for _, n := range []int{api.MaxInt + 1, api.MinInt - 1, math.MaxInt, math.MinInt} {
		l = append(l, num(n))
	}
	for _, n := range []int{-1, api.MinInt, math.MinInt} {
		l = append(l, con(n), con(n, 0), global(n), read(n))
	}
	for _, kind := range []int{api.NodeApply, api.NodeInd, api.NodeEmpty, api.NodeBusy} {
		for _, n := range []int{1, -1, math.MaxInt, math.MinInt} {
			l = append(l, api.Node{Kind: kind, Num: n, Args: make([]int, map[int]int{api.NodeApply: 2, api.NodeInd: 1}[kind])})
		}
	}
	for _, kind := range []int{api.NodeInt, api.NodeGlobal, api.NodeInput, api.NodeEmpty, api.NodeBusy, api.NodeApply, api.NodeInd, api.NodeCon} {
		for _, count := range []int{0, 1, 2, 3, 8, 9, 256, 257, 258} {
			n := api.Node{Kind: kind, Args: make([]int, count)}
			switch {
			case kind == api.NodeCon && count <= api.MaxFields, kind == api.NodeApply && count == 2, kind == api.NodeInd && count == 1:
			case count == 0 && kind != api.NodeApply && kind != api.NodeInd:
			default:
				l = append(l, n)
			}
		}
	}
	return l
}

// TestWrongNodes: P20.2, P20.3: a node that may not be is refused, ahead of what its Args are and of room, and changes nothing.
func TestWrongNodes(t *testing.T) {
	nodes := []api.Node{num(1), con(3, 0, 0)}
	for _, n := range wrongNodes() {
		for _, size := range []int{2, 3} {
			for _, arg := range []int{0, 1, 2, -1} {
				a := arena(t, size, nodes...)
				x := clone(n)
				for i := range x.Args {
					x.Args[i] = arg
				}
				refusedNode(t, a, x, api.ErrArg)
				for at := -1; at < 4; at++ {
					want := api.ErrArg
					if at < 0 || at > 1 {
						want = api.ErrHeapPlace
					}
					refusedSet(t, a, at, x, want)
				}
			}
		}
	}
}

// refusedSet asks Set for what is refused: nothing has changed.
func refusedSet(t *testing.T, a *heap.Arena, at int, n api.Node, want api.Errno) {
	t.Helper()
	ahead := all(t, a)
	if e := a.Set(at, n); e != want {
		t.Fatal("Set", at, n, "is", e, "not", want)
	}
	holds(t, a, ahead...)
}

// noPlaces are numbers that are no places of an arena with so many nodes.
func noPlaces(used int) []int {
	return []int{used, used + 1, -1, -2, 1 << 31, 1<<31 - 1, 1 << 32, 1<<32 + 1, -1 << 32, math.MaxInt, math.MinInt}
}

// TestWrongPlaces: P20.2 to P20.5: what is no place is refused, wherever it stands, and nothing has changed.
func TestWrongPlaces(t *testing.T) {
	nodes := []api.Node{num(1), con(3, 0, 0), ind(1)}
	for _, at := range noPlaces(3) {
		for _, size := range []int{3, 4, 9} { // ErrHeapPlace is told ahead of ErrHeapRoom
			a := arena(t, size, nodes...)
			for _, n := range []api.Node{ind(at), app(at, 0), app(0, at), app(at, at), con(1, at), con(1, 0, 1, 2, 0, 1, 2, 0, at), con(1, at, 0, 1, 2)} {
				refusedNode(t, a, n, api.ErrHeapPlace)
				refusedSet(t, a, 0, n, api.ErrHeapPlace)
				refusedSet(t, a, 2, n, api.ErrHeapPlace)
				refusedSet(t, a, at, n, api.ErrHeapPlace)
			}
			refusedSet(t, a, at, num(1), api.ErrHeapPlace)
			for _, roots := range [][]int{{at}, {0, at}, {at, 0}, {0, 1, 2, at, 2}, {at, at}} {
				if l, e := a.Collect(roots); l != nil || e != api.ErrHeapPlace {
					t.Fatal("Collect", roots, "is", l, e)
				}
				for _, n := range []int{0, 1, size - 3, size, size + 1, math.MaxInt} {
					room(t, a, n, roots, nil, api.ErrHeapPlace)
				}
				for _, n := range []int{-1, math.MinInt} {
					room(t, a, n, roots, nil, api.ErrArg)
				}
			}
			holds(t, a, nodes...)
			collects(t, a, 0)
		}
	}
}

// TestNoPlaces: P20.2 to P20.5: an arena without nodes has no places.
func TestNoPlaces(t *testing.T) {
	a := arena(t, 3)
	for _, at := range noPlaces(0) {
		refusedNode(t, a, ind(at), api.ErrHeapPlace)
		refusedSet(t, a, at, num(1), api.ErrHeapPlace)
		room(t, a, 0, []int{at}, nil, api.ErrHeapPlace)
	}
	refusedNode(t, a, api.Node{}, api.ErrArg)
	collects(t, a, 0)
}

// TestOldPlaces: P20.3, P20.4: behind a Collect the places are those that are numbered anew, and no others.
func TestOldPlaces(t *testing.T) {
	a := arena(t, 6, num(1), num(2), num(3), num(4), app(2, 3))
	collect(t, a, []int{4}, 0)
	for _, at := range []int{3, 4, 5} {
		refusedSet(t, a, at, num(1), api.ErrHeapPlace)
		refusedNode(t, a, app(0, at), api.ErrHeapPlace)
		room(t, a, 0, []int{at}, nil, api.ErrHeapPlace)
	}
	holds(t, a, app(1, 2), num(3), num(4))
	room(t, a, 6, []int{1}, nil, api.ErrHeapRoom)
	refusedSet(t, a, 1, num(1), api.ErrHeapPlace)
	holds(t, a, num(3))
}

// TestRoomOfMany: P20.5: numbers at the ends of int, and around what there is room for.
func TestRoomOfMany(t *testing.T) {
	for _, n := range []int{4, 5, 1 << 31, 1 << 32, 1<<32 + 1, math.MaxInt - 1, math.MaxInt} {
		for _, used := range []int{0, 1, 3} {
			a := arena(t, 3, slices.Repeat([]api.Node{num(1)}, used)...)
			room(t, a, n, places(used), nil, api.ErrHeapRoom)
			collects(t, a, 1)
			if a.Used() != used {
				t.Error("Used is", a.Used(), "not", used)
			}
		}
	}
	for _, n := range []int{-1, -2, -1 << 32, math.MinInt, math.MinInt + 1} {
		a := arena(t, 3, num(1))
		room(t, a, n, nil, nil, api.ErrArg)
		room(t, a, n, []int{0}, nil, api.ErrArg)
		collects(t, a, 0)
		holds(t, a, num(1))
	}
}

// spoil writes over a list and its spare room.
func spoil(l []int) {
	l = l[:cap(l)]
	for i := range l {
		l[i] = -77
	}
}

// spare is a list with spare room behind it, in which nothing may be written.
func spare(l ...int) []int {
	return append(make([]int, 0, len(l)+20), l...)
}

// untouched: of a list that spare made nothing was changed.
func untouched(t *testing.T, what string, l []int, want ...int) {
	t.Helper()
	if !slices.Equal(l, want) || slices.ContainsFunc(l[len(l):cap(l)], func(x int) bool { return x != 0 }) {
		t.Fatal(what, "has changed what was handed in:", l[:cap(l)])
	}
}

// TestHandedIn: W6: what is handed in is neither changed nor kept.
func TestHandedIn(t *testing.T) {
	a := arena(t, 8, num(1), num(2))
	l := spare(0, 1, 0)
	n := con(4)
	n.Args = l
	add(t, a, n)
	untouched(t, "Add", l, 0, 1, 0)
	spoil(l)
	holds(t, a, num(1), num(2), con(4, 0, 1, 0))
	l = spare(1, 2)
	n.Args = l
	set(t, a, 1, n)
	set(t, a, 1, n) // the same once more
	untouched(t, "Set", l, 1, 2)
	spoil(l)
	holds(t, a, num(1), con(4, 1, 2), con(4, 0, 1, 0))
	l = spare(2, 1)
	room(t, a, 2, l, []int{2, 1}, api.OK)
	untouched(t, "Room", l, 2, 1)
	collect(t, a, l, 0, 1)
	untouched(t, "Collect", l, 2, 1)
	spoil(l)
	holds(t, a, con(4, 2, 1, 2), con(4, 1, 0), num(1))
	l = spare(1)
	room(t, a, 6, l, nil, api.ErrHeapRoom)
	untouched(t, "Room without room", l, 1)
}

// TestAnswered: W6: what is answered is neither kept nor shared.
func TestAnswered(t *testing.T) {
	nodes := []api.Node{num(1), con(4, 0, 0), con(5, 1, 0, 1), con(6, 2)}
	a := arena(t, 6, nodes...)
	for at := range 4 {
		n, _ := a.Get(at)
		m, _ := a.Get(at)
		spoil(n.Args)
		if !alike(m, nodes[at]) {
			t.Fatal("two answers of Get share something:", m)
		}
		holds(t, a, nodes...)
	}
	roots := []int{3, 2, 1}
	l, _ := a.Room(1, roots)
	spoil(l)
	m, _ := a.Room(1, roots)
	if !slices.Equal(roots, []int{3, 2, 1}) || !slices.Equal(m, roots) {
		t.Fatal("Room's answer is shared:", roots, m)
	}
	holds(t, a, nodes...)
	l, _ = a.Room(3, []int{1})
	spoil(l)
	holds(t, a, con(4, 1, 1), num(1))
	l, _ = a.Collect([]int{0, 1, 0})
	k, _ := a.Collect([]int{0, 1, 0})
	spoil(l)
	if !slices.Equal(k, []int{0, 1, 0}) {
		t.Fatal("two answers of Collect share something:", k)
	}
	holds(t, a, con(4, 1, 1), num(1))
	collect(t, a, []int{0}, 0)
}

// TestGotAhead: W6: a node that was told stays as it was, whatever is done with the arena.
func TestGotAhead(t *testing.T) {
	a := arena(t, 4, num(1), num(2), con(4, 0, 1), ind(2))
	n, _ := a.Get(2)
	set(t, a, 2, con(4, 1, 1))
	set(t, a, 2, con(4))
	collect(t, a, []int{3, 1}, 0, 1)
	add(t, a, con(5, 1, 1))
	if !alike(n, con(4, 0, 1)) {
		t.Error("it has become", n)
	}
}

// TestEmptyLists: W5: nil lists and empty ones are the same.
func TestEmptyLists(t *testing.T) {
	for _, l := range [][]int{nil, {}, make([]int, 0, 5)} {
		a := arena(t, 9)
		for _, n := range []api.Node{num(3), con(4), global(1), read(2), empty, busy} {
			n.Args = l
			add(t, a, n)
			set(t, a, a.Used()-1, n)
		}
		holds(t, a, num(3), con(4), global(1), read(2), empty, busy)
		room(t, a, 3, l, nil, api.OK)
		room(t, a, 9, l, nil, api.OK)
		collect(t, a, l)
		holds(t, a)
	}
}

// TestAtOneTime: W2, P20.10: arenas are used at one time by several goroutines, each its own.
func TestAtOneTime(t *testing.T) {
	var group sync.WaitGroup
	answers := make([][]string, 8)
	for i := range answers {
		group.Go(func() {
			a, _ := heap.New(20)
			for k := range 2000 {
				at, e := a.Add(con(k, max(0, a.Used()-1)))
				if e != api.OK {
					at, e = a.Add(num(k))
				}
				l, f := a.Room(k%7, []int{max(0, a.Used()-1)})
				answers[i] = append(answers[i], fmt.Sprint(at, e, l, f, a.Used(), a.Collections()))
			}
		})
	}
	group.Wait()
	for i, l := range answers {
		if !slices.Equal(l, answers[0]) {
			t.Error("goroutine", i, "was told something else")
		}
	}
}
