package heap_test

import (
	"runtime"
	"runtime/debug"
	"slices"
	"testing"
	"time"

	"sloth/api"
	"sloth/heap"
)

// small does something in a goroutine that has little stack; more than that ends the test.
func small(do func()) {
	defer debug.SetMaxStack(debug.SetMaxStack(1 << 16))
	done := make(chan bool)
	go func() {
		defer close(done)
		do()
	}()
	<-done
}

// great is an arena with as many nodes as may be: node i is of(i), or leads to 0 till all are there.
func great(t *testing.T, of func(i int) api.Node) *heap.Arena {
	t.Helper()
	a := arena(t, api.MaxHeap)
	for i := range api.MaxHeap {
		n := of(i)
		if slices.ContainsFunc(n.Args, func(x int) bool { return x >= i }) {
			n = empty
		}
		if at, e := a.Add(n); at != i || e != api.OK {
			t.Fatal("Add", n, "is", at, e)
		}
	}
	for i := range api.MaxHeap {
		if e := a.Set(i, of(i)); e != api.OK {
			t.Fatal("Set", i, e)
		}
	}
	return a
}

// quick: a call that ought to take its time once takes less than would be taken by one that goes the ways again and again.
func quick(t *testing.T, what string, do func()) {
	t.Helper()
	begin := time.Now()
	small(do)
	if d := time.Since(begin); d > 10*time.Second {
		t.Error(what, "takes", d)
	}
}

// moved asks for a Collect of a great arena.
func moved(t *testing.T, a *heap.Arena, roots []int, want []int, used int) {
	t.Helper()
	var l []int
	var e api.Errno
	quick(t, "Collect", func() { l, e = a.Collect(roots) })
	if e != api.OK || !slices.Equal(l, want) || a.Used() != used {
		t.Fatal("Collect is", len(l), l[:min(len(l), 9)], e, "Used", a.Used(), "not", used)
	}
}

func node(t *testing.T, a *heap.Arena, at int, want api.Node) {
	t.Helper()
	if n, e := a.Get(at); e != api.OK || !alike(n, want) {
		t.Fatal("Get", at, "is", n, e, "not", want)
	}
}

const last = api.MaxHeap - 1

// TestLongChain: P20.4: NodeInds that lead on and on, as many as a heap has; each of them is a root.
func TestLongChain(t *testing.T) {
	for _, up := range []bool{false, true} {
		end := 0
		if up {
			end = last
		}
		a := great(t, func(i int) api.Node {
			switch {
			case i == end:
				return num(5)
			case up:
				return ind(i + 1)
			}
			return ind(i - 1)
		})
		small(func() { refusedRoom(t, a, 1, []int{last + 1}) })
		moved(t, a, places(api.MaxHeap), make([]int, api.MaxHeap), 1)
		holds(t, a, num(5))
	}
}

func refusedRoom(t *testing.T, a *heap.Arena, n int, roots []int) {
	t.Helper()
	if l, e := a.Room(n, roots); l != nil || e != api.ErrHeapPlace {
		t.Error("Room is", l, e)
	}
}

// TestLongChainRoots: P20.4: a chain as long, one end of which is a root.
func TestLongChainRoots(t *testing.T) {
	a := great(t, func(i int) api.Node { return ind(max(0, i-1)) })
	set(t, a, 0, con(3, last, last/2))
	moved(t, a, []int{last}, []int{0}, 1)
	holds(t, a, con(3, 0, 0))
}

// TestGreatRing: P20.4: a ring of all nodes of a heap, and one with a long way to it.
func TestGreatRing(t *testing.T) {
	for _, back := range []int{0, last / 2, last - 1, last} {
		a := great(t, func(i int) api.Node {
			if i == last {
				return ind(back)
			}
			return ind(i + 1)
		})
		moved(t, a, places(api.MaxHeap), make([]int, api.MaxHeap), 1)
		holds(t, a, ind(0))
	}
}

// TestLongRow: P20.4: constructors each in the next one, as many as a heap has, from either end.
func TestLongRow(t *testing.T) {
	for _, up := range []bool{false, true} {
		end, begin := 0, last
		if up {
			end, begin = last, 0
		}
		a := great(t, func(i int) api.Node {
			switch {
			case i == end:
				return num(7)
			case up:
				return con(i, i+1)
			}
			return con(last-i, i-1)
		})
		moved(t, a, []int{begin, end, begin}, []int{0, 1, 0}, api.MaxHeap)
		node(t, a, 0, con(0, 2))
		node(t, a, 1, num(7))
		node(t, a, 2, con(1, 3))
		node(t, a, last, con(last-1, 1))
		moved(t, a, []int{last}, []int{0}, 2)
		holds(t, a, con(last-1, 1), num(7))
	}
}

// TestLongApplications: P20.4: applications each of which is the function of the next one, with NodeInds between.
func TestLongApplications(t *testing.T) {
	a := great(t, func(i int) api.Node {
		switch {
		case i < 2:
			return global(i)
		case i%2 == 0:
			return app(i-1, i-2)
		}
		return ind(i - 1)
	})
	moved(t, a, []int{last}, []int{0}, api.MaxHeap/2+1)
	node(t, a, 0, app(1, 1))
	node(t, a, 1, app(2, 2))
	node(t, a, api.MaxHeap/2-1, global(1)) // of app(1, 0) the function comes first
	node(t, a, api.MaxHeap/2, global(0))
}

// TestWide: P20.4: nodes with as many fields as may be, each of which leads all over the heap.
func TestWide(t *testing.T) {
	fields := func(i int) []int {
		l := make([]int, api.MaxFields)
		for k := range l {
			l[k] = (i*api.MaxFields + k + 1) & last
		}
		return l
	}
	a := great(t, func(i int) api.Node { return con(i, fields(i)...) })
	moved(t, a, []int{0}, []int{0}, api.MaxHeap)
	for _, i := range []int{0, 1, 2, 77, 4711, last / api.MaxFields, last} { // what is met first is what stood there already
		node(t, a, i, con(i, fields(i)...))
	}
	moved(t, a, places(api.MaxHeap), places(api.MaxHeap), api.MaxHeap)
	if l, e := a.Room(1, places(api.MaxHeap)); l != nil || e != api.ErrHeapRoom {
		t.Error("Room 1 is", len(l), e)
	}
	room(t, a, 1, []int{}, nil, api.OK)
	holds(t, a)
}

// TestManyRoots: P20.4, P20.5: the same root very many times, more often than there are nodes.
func TestManyRoots(t *testing.T) {
	a := arena(t, 3, num(5), ind(0), con(3, 1))
	roots := slices.Repeat([]int{2, 1, 0}, 500000)
	want := slices.Repeat([]int{0, 1, 1}, 500000)
	room(t, a, 0, roots, roots, api.OK)
	room(t, a, 1, roots, want, api.OK)
	holds(t, a, con(3, 1), num(5))
}

// bytesOf tells how many bytes are taken while something is done.
func bytesOf(do func()) uint64 {
	var ahead, behind runtime.MemStats
	runtime.ReadMemStats(&ahead)
	do()
	runtime.ReadMemStats(&behind)
	return behind.TotalAlloc - ahead.TotalAlloc
}

// TestNoMemoryAhead: P20.1: no memory is taken for nodes that are not there.
func TestNoMemoryAhead(t *testing.T) {
	got := bytesOf(func() {
		for range 1000 {
			a, _ := heap.New(api.MaxHeap)
			a.Add(num(1))
			a.Room(5, nil)
			a.Collect([]int{0})
			a.Room(api.MaxHeap, []int{0})
		}
	})
	if got > 1000*4096 {
		t.Error("a thousand arenas with one node each take", got, "bytes")
	}
}

// TestSetAgain: P20.3: a node that is set over and over takes no more memory each time.
func TestSetAgain(t *testing.T) {
	a := arena(t, 3, num(1), num(2))
	l := []api.Node{con(1, 0, 1, 0, 1, 0, 1, 0, 1), ind(1), num(4), app(0, 1), con(1, 0, 0, 0, 0, 0), con(2, 0)}
	got := bytesOf(func() {
		for i := range 600000 {
			a.Set(i%2, l[i%len(l)])
		}
	})
	if got > 1<<20 {
		t.Error("600000 calls of Set take", got, "bytes")
	}
	holds(t, a, l[4], l[5])
}
