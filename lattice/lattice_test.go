package lattice_test

import (
	"math/rand"
	"slices"
	"testing"

	"sloth/api"
	"sloth/lattice"
)

// TestExamples: P14.1 to P14.4: the chapter's table.
func TestExamples(t *testing.T) {
	for text, want := range map[string]int{
		"Int": 2, "Bool": 2, "(List Int)": 4, "(List (List (Int -> Int)))": 4, "(Pair Int Int)": 2,
		"(Int -> Int)": 3, "(Int -> (Int -> Int))": 6, "((Int -> Int) -> Int)": 4, "(Int -> (Int -> (Int -> Int)))": 20,
		"((List Int) -> Int)": 5, "(Int -> (List Int))": 10, "((List Int) -> (List Int))": 35,
	} {
		checkSize(t, typ(t, text), want)
	}
	for _, text := range []string{"(Pair Int (a -> a))", "(Int -> ((List Int) -> (List Int)))", "a", "List"} {
		checkNone(t, typ(t, text))
	}
	f := fun(number, number)
	for n, l := range [][]int{{0, 0}, {0, 1}, {1, 1}} {
		checkOf(t, f, l, n, api.OK)
		for x, want := range l {
			checkApply(t, f, n, x, want, api.OK)
		}
	}
	for _, l := range [][]int{{1, 0}, {0}, {0, 2}} {
		checkOf(t, f, l, 0, api.ErrLatticeElement)
	}
	checkApply(t, f, 1, 2, 0, api.ErrLatticeElement)
	checkNoFunction(t, number)
	checkBelow(t, list(number), 1, 3, true, api.OK)
	checkJoin(t, list(number), 1, 2, 2, api.OK)
	checkJoin(t, number, 0, 2, 0, api.ErrLatticeElement)
	checkOf(t, fun(list(number), number), []int{0, 0, 1, 1}, 2, api.OK)
	checkEdge(t, fun(list(number), number), 2, 1, []int{2}, api.OK)
	checkEdge(t, f, 0, 1, nil, api.OK)
	checkEdge(t, f, 0, 0, []int{0}, api.OK)
}

// TestSizes: P14.1: of all shapes of types that have elements, and of the function types between each two of them that have none.
func TestSizes(t *testing.T) {
	t.Parallel()
	r := rand.New(rand.NewSource(1))
	known, refused := shapes()
	if len(known) < 100 || len(refused) < 10000 {
		t.Fatal("too few:", len(known), len(refused))
	}
	met := map[int]int{}
	for _, in := range known {
		want := plainOf(in).size()
		met[want]++
		checkSize(t, in, want)
		checkSize(t, varied(r, in), want)
	}
	if met[api.MaxLattice] == 0 || met[api.MaxLattice-1] == 0 {
		t.Error("no type is at the limit:", met)
	}
	for _, in := range refused {
		if plainNodes(in) <= 60 || r.Intn(20) == 0 {
			if n, code := lattice.Size(varied(r, in)); n != 0 || code != api.ErrLatticeType {
				t.Errorf("Size(%s): %d, %v", told(in), n, code)
			}
		}
	}
}

// asked is which of so many elements are asked for: all, or those at both ends and one between.
func asked(in api.Type, size int) []int {
	var l []int
	for a := range size {
		if plainNodes(in) <= 17 || a < 2 || a == size/2 || a >= size-2 {
			l = append(l, a)
		}
	}
	return l
}

// TestOrder: P14.2: each pair of elements.
func TestOrder(t *testing.T) {
	t.Parallel()
	r := rand.New(rand.NewSource(2))
	known, _ := shapes()
	for _, in := range known {
		p := plainOf(in)
		in = varied(r, in)
		for _, a := range asked(in, p.size()) {
			for _, b := range asked(in, p.size()) {
				checkBelow(t, in, a, b, p.below[a][b], api.OK)
				checkJoin(t, in, a, b, p.join(a, b), api.OK)
			}
		}
	}
}

// TestApplyEdge: P14.3, P14.4: each function with each element of what it takes, and of what it answers.
func TestApplyEdge(t *testing.T) {
	t.Parallel()
	r := rand.New(rand.NewSource(3))
	known, _ := shapes()
	edges := map[int]int{}
	for _, in := range known {
		p := plainOf(in)
		in = varied(r, in)
		if p.lists == nil {
			checkNoFunction(t, in)
			continue
		}
		for _, f := range asked(in, p.size()) {
			for _, x := range asked(in, p.from.size()) {
				checkApply(t, in, f, x, p.lists[f][x], api.OK)
			}
			for v := range p.to.size() {
				want := p.edge(f, v)
				edges[len(want)]++
				checkEdge(t, in, f, v, want, api.OK)
			}
		}
	}
	if edges[0] < 100 || edges[1] < 1000 || edges[2] < 50 || edges[3] < 3 {
		t.Error("edges by their lengths:", edges)
	}
}

// TestOf: P14.3: every list of results, or every one but for one place; too few, too many, none.
func TestOf(t *testing.T) {
	t.Parallel()
	known, _ := shapes()
	met := map[api.Errno]int{}
	check := func(in api.Type, p *plain, l []int) {
		want, ok := slices.BinarySearchFunc(p.lists, l, slices.Compare)
		code := api.OK
		if ok != p.isMonotone(l) {
			t.Fatal("the test's own lists of", told(in))
		}
		if !ok {
			want, code = 0, api.ErrLatticeElement
		}
		met[code]++
		checkOf(t, in, l, want, code)
	}
	for _, in := range known {
		p := plainOf(in)
		if p.lists == nil {
			continue
		}
		for _, l := range eachList(p.from.size(), p.to.size()) {
			check(in, p, l)
		}
		check(in, p, nil)
		for _, f := range asked(in, p.size()) {
			l := p.lists[f]
			check(in, p, l)
			check(in, p, l[1:])
			check(in, p, l[:len(l)-1])
			check(in, p, append(slices.Clone(l), l[len(l)-1]))
			for _, x := range asked(in, len(l)) {
				others := []int{-1, p.to.size(), l[x] + 1, l[x] - 1}
				slices.Sort(others)
				for _, v := range slices.Compact(others) {
					changed := slices.Clone(l)
					changed[x] = v
					check(in, p, changed)
				}
			}
		}
	}
	if met[api.OK] < 2000 || met[api.ErrLatticeElement] < 20000 {
		t.Error(met)
	}
}

// TestRandom: P14.1: types of all kinds of pieces, some of which may not be.
func TestRandom(t *testing.T) {
	t.Parallel()
	k := maker{rand.New(rand.NewSource(4)), 0}
	met := map[int]int{}
	for i := range 60000 {
		k.bad = []int{0, 0, 10, 30}[i%4]
		in := k.typ(1 + k.Intn(5))
		if p := plainOf(in); p == nil {
			met[0]++
			if n, code := lattice.Size(in); n != 0 || code != api.ErrLatticeType {
				t.Errorf("Size(%s): %d, %v", told(in), n, code)
			}
		} else {
			met[p.size()]++
			checkSize(t, in, p.size())
		}
		if t.Failed() {
			return
		}
	}
	if met[0] < 5000 || met[2] < 5000 || met[35] < 100 || len(met) < 12 {
		t.Error(met)
	}
}

// maker makes types at random; one of so many nodes may not be, or has no elements (0: none).
type maker struct {
	*rand.Rand
	bad int
}

func (k maker) typ(depth int) api.Type {
	if k.bad > 0 && k.Intn(k.bad) == 0 {
		return pick(k.Rand, append(wrongTypes(), data("List"), data("List", number, k.typ(0)))...)
	}
	if depth == 0 {
		return pick(k.Rand, number, number, data("Bool"), list(number), data("Unit"))
	}
	depth--
	switch k.Intn(6) {
	case 0:
		return pick(k.Rand, number, list(k.typ(depth)))
	case 1:
		return data(pick(k.Rand, "T", "M.T", "M.List"), k.typ(depth), k.typ(depth))
	case 2:
		return list(k.typ(depth))
	}
	return fun(k.typ(depth/2), k.typ(depth))
}
