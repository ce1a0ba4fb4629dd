package heap_test

import (
	"fmt"
	"math"
	"slices"
	"testing"

	"sloth/api"
	"sloth/heap"
)

func num(n int) api.Node { return api.Node{Kind: api.NodeInt, Num: n} }

func con(n int, args ...int) api.Node { return api.Node{Kind: api.NodeCon, Num: n, Args: args} }

func app(f, x int) api.Node { return api.Node{Kind: api.NodeApply, Args: []int{f, x}} }

func global(n int) api.Node { return api.Node{Kind: api.NodeGlobal, Num: n} }

func ind(at int) api.Node { return api.Node{Kind: api.NodeInd, Args: []int{at}} }

func read(n int) api.Node { return api.Node{Kind: api.NodeInput, Num: n} }

var (
	empty = api.Node{Kind: api.NodeEmpty}
	busy  = api.Node{Kind: api.NodeBusy}
)

// alike: two nodes are the same; a nil list is the same as an empty one.
func alike(a, b api.Node) bool {
	return a.Kind == b.Kind && a.Num == b.Num && slices.Equal(a.Args, b.Args)
}

func clone(n api.Node) api.Node {
	n.Args = slices.Clone(n.Args)
	return n
}

// arena is one of a size with some nodes.
func arena(t *testing.T, size int, nodes ...api.Node) *heap.Arena {
	t.Helper()
	a, e := heap.New(size)
	if a == nil || e != api.OK {
		t.Fatal("New", size, e)
	}
	add(t, a, nodes...)
	return a
}

// add adds nodes, whose places are to be the next ones.
func add(t *testing.T, a *heap.Arena, nodes ...api.Node) {
	t.Helper()
	for _, n := range nodes {
		want := a.Used()
		if at, e := a.Add(n); at != want || e != api.OK {
			t.Fatal("Add", n, "is", at, e, "not", want)
		}
	}
}

func set(t *testing.T, a *heap.Arena, at int, n api.Node) {
	t.Helper()
	if e := a.Set(at, n); e != api.OK {
		t.Fatal("Set", at, n, "is", e)
	}
}

// all tells each node.
func all(t *testing.T, a *heap.Arena) []api.Node {
	t.Helper()
	var l []api.Node
	for at := range a.Used() {
		n, e := a.Get(at)
		if e != api.OK {
			t.Fatal("Get", at, e)
		}
		l = append(l, n)
	}
	for _, at := range []int{-1, a.Used(), a.Used() + 1, math.MaxInt, math.MinInt} {
		if n, e := a.Get(at); e != api.ErrHeapPlace || !zero(n) {
			t.Fatal("Get", at, "is", n, e)
		}
	}
	return l
}

func zero(n api.Node) bool { return n.Kind == 0 && n.Num == 0 && n.Args == nil }

// holds: an arena has just these nodes.
func holds(t *testing.T, a *heap.Arena, want ...api.Node) {
	t.Helper()
	if got := all(t, a); !slices.EqualFunc(got, want, alike) {
		t.Fatal("the nodes are", got, "not", want)
	}
}

// collects: so many times was collected.
func collects(t *testing.T, a *heap.Arena, want int) {
	t.Helper()
	if got := a.Collections(); got != want {
		t.Fatal("Collections is", got, "not", want)
	}
}

// collect asks for Collect, which is to answer these places.
func collect(t *testing.T, a *heap.Arena, roots []int, want ...int) {
	t.Helper()
	ahead := a.Collections()
	if got, e := a.Collect(roots); e != api.OK || !slices.Equal(got, want) {
		t.Fatal("Collect", roots, "is", got, e, "not", want)
	}
	collects(t, a, ahead+1)
}

// room asks for Room.
func room(t *testing.T, a *heap.Arena, n int, roots []int, want []int, err api.Errno) {
	t.Helper()
	got, e := a.Room(n, roots)
	if e != err || !slices.Equal(got, want) || e != api.OK && got != nil {
		t.Fatal("Room", n, roots, "is", got, e, "not", want, err)
	}
}

// places are the numbers from 0 on.
func places(n int) []int {
	l := make([]int, n)
	for i := range l {
		l[i] = i
	}
	return l
}

// tooSeldom: of all that was to be met each thing was met so often.
func tooSeldom(t *testing.T, met map[string]int, least int, all ...string) {
	t.Helper()
	for _, what := range all {
		if met[what] < least {
			t.Error("met too seldom:", what, met[what])
		}
	}
	if testing.Verbose() {
		fmt.Println(met)
	}
}
