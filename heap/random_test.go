package heap_test

import (
	"fmt"
	"math"
	"math/rand"
	"slices"
	"testing"

	"sloth/api"
	"sloth/heap"
)

// maker makes calls at random, and keeps an arena and its second form.
type maker struct {
	*rand.Rand
	t     *testing.T
	arena *heap.Arena
	plain plain
	told  []string // the calls, for who reads of a fault
}

func newMaker(t *testing.T, seed int64, size int, met map[string]int) *maker {
	m := &maker{Rand: rand.New(rand.NewSource(seed)), t: t, plain: plain{size: size, met: met}}
	m.arena = arena(t, size)
	return m
}

// many calls do with makers of several sizes.
func many(t *testing.T, seed int64, count int, met map[string]int, do func(m *maker)) {
	t.Helper()
	for i := range count {
		m := newMaker(t, seed*1000003+int64(i), 1+i%24, met)
		do(m)
	}
}

// place is one that is there, if there is one; seldom one that is none.
func (m *maker) place() int {
	used := len(m.plain.nodes)
	if m.Intn(120) == 0 {
		return []int{-1, used, used + 1, m.plain.size, math.MaxInt, math.MinInt, 1 << 32, 1 << 31}[m.Intn(8)]
	}
	if used == 0 {
		return 0
	}
	if m.Intn(3) == 0 { // so that chains come to be
		return used - 1
	}
	return m.Intn(used)
}

func (m *maker) list(n int) []int {
	var l []int
	for range n {
		l = append(l, m.place())
	}
	return l
}

// node is one that may be; seldom one that may not.
func (m *maker) node() api.Node {
	n := m.right()
	if m.Intn(30) > 0 {
		return n
	}
	switch m.Intn(4) {
	case 0:
		n.Kind = []int{0, -1, 9, api.NodeInt + 256, math.MaxInt, math.MinInt, api.NodeInd, api.NodeBusy}[m.Intn(8)]
	case 1:
		n.Num = []int{-1, 1, api.MaxInt + 1, api.MinInt - 1, math.MaxInt, math.MinInt}[m.Intn(6)]
	case 2:
		n.Args = append(n.Args, m.list(1+m.Intn(9))...)
	case 3:
		n.Args = nil
	}
	return n
}

func (m *maker) right() api.Node {
	if len(m.plain.nodes) == 0 {
		return []api.Node{num(7), con(3), global(2)}[m.Intn(3)]
	}
	number := []int{0, 1, m.Intn(9), api.MaxInt}[m.Intn(4)]
	switch m.Intn(10) {
	case 0:
		return num([]int{number, -number, api.MinInt}[m.Intn(3)])
	case 1, 2:
		return con(number, m.list(m.Intn(4))...)
	case 3:
		return con(number, m.list(m.Intn(api.MaxFields+1))...)
	case 4:
		return app(m.place(), m.place())
	case 5:
		return []api.Node{global(number), read(number), empty, busy}[m.Intn(4)]
	}
	return ind(m.place())
}

// same says what was called, if arena and second form are not as one.
func (m *maker) same(call string, right bool) {
	m.t.Helper()
	m.told = append(m.told, call)
	if !right || m.arena.Used() != len(m.plain.nodes) || m.arena.Collections() != m.plain.collections || !slices.EqualFunc(all(m.t, m.arena), m.plain.nodes, alike) {
		m.t.Fatal("size ", m.plain.size, ": ", m.told, ": there are ", all(m.t, m.arena), " not ", m.plain.nodes, "; Collections ", m.arena.Collections(), " not ", m.plain.collections)
	}
}

func (m *maker) add() {
	m.t.Helper()
	n := m.node()
	at, e := m.arena.Add(clone(n))
	x, f := m.plain.add(n)
	m.plain.met[fmt.Sprint("Add ", int(f))]++
	m.same(fmt.Sprint("Add ", n, " = ", at, e), at == x && e == f)
}

func (m *maker) set() {
	m.t.Helper()
	at, n := m.place(), m.node()
	if k := m.Intn(12); k < 2 && m.plain.place(at) {
		n = clone(m.plain.nodes[at])
	} else if k < 4 && m.plain.place(at) { // the end of a chain leads to its beginning
		at, n = m.plain.over(at), ind(at)
	}
	e := m.arena.Set(at, clone(n))
	f := m.plain.set(at, n)
	m.plain.met[fmt.Sprint("Set ", int(f))]++
	m.same(fmt.Sprint("Set ", at, n, " = ", e), e == f)
}

func (m *maker) collect() {
	m.t.Helper()
	roots := m.list(m.Intn(5))
	l, e := m.arena.Collect(slices.Clone(roots))
	x, f := m.plain.collect(roots)
	m.plain.met[fmt.Sprint("Collect ", int(f))]++
	m.same(fmt.Sprint("Collect ", roots, " = ", l, e), slices.Equal(l, x) && e == f && (e == api.OK || l == nil))
}

func (m *maker) room() {
	m.t.Helper()
	roots := m.list(m.Intn(5))
	n := []int{m.Intn(m.plain.size + 2), m.Intn(3), -1, math.MaxInt, math.MinInt, m.plain.size}[min(m.Intn(40), 5)]
	if m.Intn(2) == 0 {
		n = m.Intn(m.plain.size + 1)
	}
	l, e := m.arena.Room(n, slices.Clone(roots))
	x, f := m.plain.room(n, roots)
	m.plain.met[fmt.Sprint("Room ", int(f))]++
	m.same(fmt.Sprint("Room ", n, roots, " = ", l, e), slices.Equal(l, x) && e == f && (e == api.OK || l == nil))
}

// call is one of the calls that change something, most of all Add.
func (m *maker) call() {
	m.t.Helper()
	switch k := m.Intn(20); {
	case k < 11:
		m.add()
	case k < 16:
		m.set()
	case k < 18:
		m.collect()
	default:
		m.room()
	}
}

// grow adds and sets alone, so that there is much, and much of it reached.
func (m *maker) grow(calls int) {
	m.t.Helper()
	for range calls {
		if m.Intn(3) > 0 {
			m.add()
		} else {
			m.set()
		}
	}
}

// TestRandom: P20.1 to P20.6: each answer is that of the second form, and so is each node behind each call.
func TestRandom(t *testing.T) {
	met := map[string]int{}
	many(t, 1, 6000, met, func(m *maker) {
		for range 40 {
			m.call()
		}
	})
	tooSeldom(t, met, 500, "Add 0", "Add 1", "Add 201", "Add 202", "Set 0", "Set 1", "Set 202", "Collect 0", "Collect 202", "Room 0", "Room 1", "Room 201", "Room 202", "room ahead", "room made", "no room", "by two ways", "something gone", "a chain", "a ring", "a ring from outside", "a ring of many", "set to the same")
}

// TestRandomMuch: P20.4: as TestRandom, of arenas in which much can be reached.
func TestRandomMuch(t *testing.T) {
	met := map[string]int{}
	for i := range 300 {
		m := newMaker(t, int64(i), 60+i%40, met)
		for range 3 {
			m.grow(100)
			for range 2 {
				m.collect()
			}
			m.room()
		}
	}
	tooSeldom(t, met, 40, "Collect 0", "Room 0", "Room 201", "room made", "by two ways", "something gone", "a chain", "a ring", "a ring from outside", "a ring of many")
}
