package heap_test

import (
	"fmt"
	"slices"
	"testing"

	"sloth/api"
	"sloth/heap"
)

// refusedNode asks Add for a node that is refused: nothing is answered beside the error, and no node comes.
func refusedNode(t *testing.T, a *heap.Arena, n api.Node, want api.Errno) {
	t.Helper()
	ahead := all(t, a)
	if at, e := a.Add(n); at != 0 || e != want {
		t.Fatal("Add", n, "is", at, e, "not", want)
	}
	holds(t, a, ahead...)
}

// TestExamples: the chapter's examples, in their order.
func TestExamples(t *testing.T) {
	for _, size := range []int{0, api.MaxHeap + 1} {
		if a, e := heap.New(size); a != nil || e != api.ErrHeapSize {
			t.Error("New", size, "is", a, e)
		}
	}
	a := arena(t, 4, num(7), ind(0), con(4, 1, 1), ind(1))
	refusedNode(t, a, num(1), api.ErrHeapRoom)
	refusedNode(t, a, con(4, 9), api.ErrHeapPlace)
	refusedNode(t, a, api.Node{Kind: api.NodeApply, Args: []int{0}}, api.ErrArg)
	room(t, a, 0, []int{3, 2}, []int{3, 2}, api.OK)
	collects(t, a, 0)
	holds(t, a, num(7), ind(0), con(4, 1, 1), ind(1))
	room(t, a, 2, []int{3, 2}, []int{0, 1}, api.OK)
	holds(t, a, num(7), con(4, 0, 0))
	collects(t, a, 1)
	set(t, a, 0, ind(1))
	set(t, a, 1, ind(0))
	collect(t, a, []int{1, 0}, 0, 0)
	holds(t, a, ind(0))
	room(t, a, 4, []int{0}, nil, api.ErrHeapRoom)
	collects(t, a, 3)
	room(t, a, -1, nil, nil, api.ErrArg)
	if l, e := a.Collect([]int{5}); l != nil || e != api.ErrHeapPlace {
		t.Error("Collect 5 is", l, e)
	}
	if n, e := a.Get(-1); !zero(n) || e != api.ErrHeapPlace {
		t.Error("Get -1 is", n, e)
	}
	collect(t, a, nil)
	holds(t, a)
}

// kinds are nodes of all kinds with what they may have, all Args of which are 0.
func kinds() []api.Node {
	l := []api.Node{num(0), num(1), num(-1), num(api.MaxInt), num(api.MinInt), app(0, 0), ind(0), empty, busy}
	for _, n := range []int{0, 1, 255, 256, 1 << 32, api.MaxInt + 1, 1<<63 - 1} { // what a number of these is, no arena asks
		l = append(l, con(n), con(n, 0), con(n, 0, 0), con(n, 0, 0, 0, 0, 0, 0, 0), con(n, 0, 0, 0, 0, 0, 0, 0, 0), global(n), read(n))
	}
	return l
}

// TestKinds: P20.2, P20.3: each kind of node is added, got, set, and set to what it is already.
func TestKinds(t *testing.T) {
	l := kinds()
	a := arena(t, len(l)+1, num(3))
	add(t, a, l...)
	holds(t, a, append([]api.Node{num(3)}, l...)...)
	for _, x := range l {
		for _, y := range l {
			b := arena(t, 3, num(9), x, num(8))
			set(t, b, 1, y)
			holds(t, b, num(9), y, num(8))
			set(t, b, 1, y)
			holds(t, b, num(9), y, num(8))
			set(t, b, 1, x)
			holds(t, b, num(9), x, num(8))
			collects(t, b, 0)
		}
	}
}

// TestSetDiffers: P20.3: nodes that differ in one thing alone are not the same.
func TestSetDiffers(t *testing.T) {
	l := []api.Node{con(0), con(1), con(0, 0), con(0, 1), con(0, 0, 0), con(0, 0, 1), con(0, 1, 0), con(0, 1, 1), app(0, 0), app(0, 1), app(1, 0), app(1, 1), ind(0), ind(1), num(0), num(1), global(0), global(1), read(0), read(1), empty, busy}
	a := arena(t, 3, num(5), num(6), num(7))
	for _, x := range l {
		for _, y := range l {
			set(t, a, 2, x)
			set(t, a, 2, y)
			holds(t, a, num(5), num(6), y)
		}
	}
}

// TestSetGrows: P20.3: a node that is set to one with more or fewer Args, again and again, among others that stay.
func TestSetGrows(t *testing.T) {
	l := []api.Node{con(1, 0), con(2, 1, 2), con(3), con(4, 2, 1, 0)}
	a := arena(t, 4, num(1), num(2), num(3), num(4))
	want := all(t, a)
	for i := range 400 {
		at := i % 4
		n := clone(l[i*7%4])
		for range i * 5 % 7 {
			if len(n.Args) > 0 && len(n.Args) < api.MaxFields {
				n.Args = append(n.Args, i%4)
			}
		}
		want[at] = clone(n)
		set(t, a, at, n)
		holds(t, a, want...)
	}
	b := append([]int{3, 2, 1, 0}, 0)
	if got, e := a.Collect(b); e != api.OK || !slices.Equal(got, []int{0, 1, 2, 3, 3}) {
		t.Error("Collect is", got, e)
	}
}

// TestItself: P20.3, P20.4: a node may be set to lead to itself.
func TestItself(t *testing.T) {
	a := arena(t, 3, num(5), num(6), num(7))
	set(t, a, 1, con(4, 1, 0, 1))
	set(t, a, 2, app(2, 2))
	collect(t, a, []int{2, 1, 2}, 0, 1, 0)
	holds(t, a, app(0, 0), con(4, 1, 2, 1), num(5))
}

// TestPassedOver: P20.4: NodeInds that lead to a node, as roots and as Args.
func TestPassedOver(t *testing.T) {
	a := arena(t, 20, num(7), ind(0), ind(1), ind(2), con(9, 3, 0, 1, 2), ind(4), app(5, 3), ind(6))
	collect(t, a, []int{7, 5, 3, 0}, 0, 1, 2, 2)
	holds(t, a, app(1, 2), con(9, 2, 2, 2, 2), num(7))
	add(t, a, ind(2), ind(3)) // roots that are passed over to the same
	collect(t, a, []int{3, 4, 2, 4}, 0, 0, 0, 0)
	holds(t, a, num(7))
}

// TestForward: P20.4: a chain that leads to greater places.
func TestForward(t *testing.T) {
	a := arena(t, 9, num(1), num(2), num(3), num(4))
	set(t, a, 0, ind(1))
	set(t, a, 1, ind(3))
	set(t, a, 2, con(4, 0, 1, 3))
	collect(t, a, []int{2, 0}, 0, 1)
	holds(t, a, con(4, 1, 1, 1), num(4))
}

// TestRings: P20.4: rings of one, two and many, from within and from outside: one NodeInd that leads to itself.
func TestRings(t *testing.T) {
	for _, count := range []int{1, 2, 3, 7} {
		for _, tail := range []int{0, 1, 2, 5} {
			total := count + tail
			a := arena(t, total+4, slices.Repeat([]api.Node{num(1)}, total)...)
			for i := range count {
				set(t, a, i, ind((i+1)%count))
			}
			for i := count; i < total; i++ { // a tail that leads into the ring
				set(t, a, i, ind(i-1))
			}
			add(t, a, con(4, total-1, 0, count-1), num(5))
			roots := append(places(total), total)
			want := append(slices.Repeat([]int{0}, total), 1)
			collect(t, a, roots, want...)
			holds(t, a, ind(0), con(4, 0, 0, 0))
			collect(t, a, []int{1, 0, 1}, 0, 1, 0)
			holds(t, a, con(4, 1, 1, 1), ind(1))
		}
	}
}

// TestTwoRings: P20.4: two rings are two things, a ring and a node that leads to it too.
func TestTwoRings(t *testing.T) {
	a := arena(t, 9, num(1), num(2), num(3), num(4), num(5))
	set(t, a, 0, ind(2))
	set(t, a, 2, ind(0))
	set(t, a, 1, ind(3))
	set(t, a, 3, ind(1))
	set(t, a, 4, con(4, 0, 1, 2, 3, 4))
	collect(t, a, []int{3, 4, 2, 1, 0}, 0, 1, 2, 0, 2)
	holds(t, a, ind(0), con(4, 2, 0, 2, 0, 1), ind(2))
}

// TestSoleRing: P20.4: a ring that is met at two places, through Args alone.
func TestSoleRing(t *testing.T) {
	a := arena(t, 9, num(1), num(2), num(3))
	for i := range 3 {
		set(t, a, i, ind((i+1)%3))
	}
	add(t, a, con(5, 2, 1), con(6, 3, 0), num(9))
	collect(t, a, []int{4}, 0)
	holds(t, a, con(6, 1, 2), con(5, 2, 2), ind(2))
}

// TestOrder: P20.4: first the roots from the left, then node by node the Args of each.
func TestOrder(t *testing.T) {
	// A tree with two ways to one of its leaves, and a way back.
	a := arena(t, 20, num(0), num(1), num(2), num(3), con(4, 0, 1), con(5, 2, 3), con(6, 4, 5), app(6, 0), num(8))
	set(t, a, 3, con(3, 7, 8))
	collect(t, a, []int{7}, 0)
	holds(t, a, app(1, 2), con(6, 3, 4), num(0), con(4, 2, 5), con(5, 6, 7), num(1), num(2), con(3, 0, 8), num(8))
	collect(t, a, []int{8, 4, 3, 8}, 0, 1, 2, 0)
	holds(t, a, num(8), con(5, 3, 4), con(4, 5, 6), num(2), con(3, 7, 0), num(0), num(1), app(8, 5), con(6, 2, 1))
}

// TestGone: P20.4: what cannot be reached is gone, whatever it leads to.
func TestGone(t *testing.T) {
	a := arena(t, 9, num(1), app(0, 0), con(3, 1, 0), ind(2), busy, empty, global(3), read(2))
	collect(t, a, []int{5, 0}, 0, 1)
	holds(t, a, empty, num(1))
	collect(t, a, nil)
	holds(t, a)
	collect(t, a, []int{})
	collects(t, a, 3)
}

// TestEachKindMoved: P20.4: each kind of node, with its number.
func TestEachKindMoved(t *testing.T) {
	for _, n := range kinds() {
		a := arena(t, 5, num(3), num(4), n)
		want := clone(n)
		for i := range want.Args {
			want.Args[i] = 1
		}
		switch {
		case n.Kind == api.NodeInd:
			collect(t, a, []int{2}, 0)
			holds(t, a, num(3))
		case len(n.Args) > 0:
			collect(t, a, []int{2}, 0)
			holds(t, a, want, num(3))
		default:
			collect(t, a, []int{2}, 0)
			holds(t, a, n)
		}
	}
}

// TestAgain: P20.4: behind a Collect new nodes stand at the next places, old ones may be set, and it is collected once more.
func TestAgain(t *testing.T) {
	a := arena(t, 5, num(1), num(2), num(3), con(3, 0, 2))
	collect(t, a, []int{3}, 0)
	holds(t, a, con(3, 1, 2), num(1), num(3))
	add(t, a, app(0, 2), ind(3))
	refusedNode(t, a, num(1), api.ErrHeapRoom)
	set(t, a, 2, con(2, 4, 4, 0))
	collect(t, a, []int{4, 1}, 0, 1)
	holds(t, a, app(2, 3), num(1), con(3, 1, 3), con(2, 0, 0, 2))
	collects(t, a, 2)
}

// TestRoom: P20.5: where there is room, where it is made, and where it is not.
func TestRoom(t *testing.T) {
	nodes := []api.Node{num(1), ind(0), num(2), con(3, 1, 2)}
	for n := range 9 {
		for _, x := range []struct {
			roots, moved []int
			stays        []api.Node
		}{
			{nil, nil, nil},
			{[]int{1, 0}, []int{0, 0}, []api.Node{num(1)}},
			{[]int{3, 1}, []int{0, 1}, []api.Node{con(3, 1, 2), num(1), num(2)}},
		} {
			a := arena(t, 6, nodes...)
			switch {
			case n <= 2:
				room(t, a, n, x.roots, x.roots, api.OK)
				holds(t, a, nodes...)
				collects(t, a, 0)
			case n <= 6-len(x.stays):
				room(t, a, n, x.roots, x.moved, api.OK)
				holds(t, a, x.stays...)
				collects(t, a, 1)
				add(t, a, slices.Repeat([]api.Node{busy}, n)...)
			default:
				room(t, a, n, x.roots, nil, api.ErrHeapRoom)
				holds(t, a, x.stays...)
				collects(t, a, 1)
				room(t, a, n, places(len(x.stays)), nil, api.ErrHeapRoom)
				holds(t, a, x.stays...)
				collects(t, a, 2)
			}
		}
	}
}

// TestFull: P20.2, P20.5, P20.6: an arena filled to its last node; there is room for none at all then.
func TestFull(t *testing.T) {
	for _, size := range []int{1, 2, 3, 10, 1000} {
		a := arena(t, size)
		for i := range size {
			room(t, a, size-i, nil, nil, api.OK)
			add(t, a, con(i))
		}
		collects(t, a, 0)
		refusedNode(t, a, num(1), api.ErrHeapRoom)
		room(t, a, 0, places(size), places(size), api.OK)
		collects(t, a, 0)
		room(t, a, 1, places(size), nil, api.ErrHeapRoom)
		collects(t, a, 1)
		if a.Used() != size {
			t.Error("Used is", a.Used(), "not", size)
		}
		room(t, a, 1, places(size)[1:], places(size)[:size-1], api.OK)
		add(t, a, num(1))
		refusedNode(t, a, num(1), api.ErrHeapRoom)
		room(t, a, size, nil, nil, api.OK)
		collects(t, a, 3)
		holds(t, a)
	}
}

// TestCounts: P20.6: Used tells what stayed and what was added since, Collections each time that was collected, and no other.
func TestCounts(t *testing.T) {
	a := arena(t, 4)
	want := func(used, collections int) {
		t.Helper()
		if a.Used() != used || a.Collections() != collections {
			t.Fatal("Used", a.Used(), "not", used, "Collections", a.Collections(), "not", collections)
		}
	}
	want(0, 0)
	add(t, a, num(1), num(2), num(3))
	want(3, 0)
	set(t, a, 0, num(4))
	room(t, a, 1, []int{1}, []int{1}, api.OK)
	want(3, 0)
	room(t, a, 2, []int{1}, []int{0}, api.OK)
	want(1, 1)
	add(t, a, ind(0), num(2))
	want(3, 1)
	collect(t, a, []int{1, 2}, 0, 1)
	want(2, 2)
	room(t, a, 3, []int{1, 0}, nil, api.ErrHeapRoom)
	want(2, 3)
	for _, e := range []func() api.Errno{
		func() api.Errno { _, e := a.Collect([]int{2}); return e },
		func() api.Errno { _, e := a.Room(4, []int{2}); return e },
		func() api.Errno { _, e := a.Room(-4, []int{0}); return e },
		func() api.Errno { _, e := a.Add(num(api.MaxInt + 1)); return e },
	} {
		if e() == api.OK {
			t.Error("no error")
		}
		want(2, 3)
	}
	for i := range 5 {
		collect(t, a, nil)
		want(0, 4+i)
	}
}

// TestNew: P20.1: an arena has room for so many nodes, and none.
func TestNew(t *testing.T) {
	for _, size := range []int{1, 2, 64, api.MaxHeap - 1, api.MaxHeap} {
		a := arena(t, size)
		holds(t, a)
		collects(t, a, 0)
		room(t, a, size, nil, nil, api.OK)
		collects(t, a, 0)
		room(t, a, size+1, nil, nil, api.ErrHeapRoom)
		collects(t, a, 1)
	}
	for _, size := range []int{0, -1, -1 << 63, api.MaxHeap + 1, 1<<63 - 1, 1 << 32, 1<<32 + 5} {
		if a, e := heap.New(size); a != nil || e != api.ErrHeapSize {
			t.Error(fmt.Sprint("New ", size, " is ", a, e))
		}
	}
}
