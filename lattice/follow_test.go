package lattice_test

import (
	"math/rand"
	"slices"
	"sync"
	"testing"

	"sloth/api"
	"sloth/lattice"
)

// order is all that the calls tell of a type.
type order struct {
	*testing.T
	in    api.Type
	size  int
	below [][]bool
	join  [][]int
}

func orderOf(t *testing.T, in api.Type) order {
	o := order{T: t, in: in}
	n, code := lattice.Size(in)
	o.want(code)
	o.size = n
	for a := range n {
		below, join := make([]bool, n), make([]int, n)
		for b := range n {
			below[b], code = lattice.Below(in, a, b)
			o.want(code)
			join[b], code = lattice.Join(in, a, b)
			o.want(code)
		}
		o.below, o.join = append(o.below, below), append(o.join, join)
	}
	return o
}

func (o order) want(code api.Errno) {
	o.Helper()
	if code != api.OK {
		o.Fatal(told(o.in), code)
	}
}

func (o order) must(is bool, what string, elements ...int) {
	o.Helper()
	if !is {
		o.Errorf("%s: %s, of %v", told(o.in), what, elements)
	}
}

// TestLattice: P14.6: the order and the joins of what the calls tell.
func TestLattice(t *testing.T) {
	t.Parallel()
	for _, in := range small(15) {
		o := orderOf(t, in)
		for a := range o.size {
			o.must(o.below[0][a], "0 is below all", a)
			o.must(o.below[a][o.size-1], "the last is above all", a)
			o.must(o.below[a][a], "each is the same as itself", a)
			o.must(o.join[a][a] == a, "the join with itself", a)
			for b := range o.size {
				o.must(!o.below[a][b] || a <= b, "what is below is less", a, b)
				o.must(a == b || !o.below[a][b] || !o.below[b][a], "not both ways round", a, b)
				o.must(o.join[a][b] == o.join[b][a], "joins either way round", a, b)
				both := o.join[a][b]
				o.must(o.below[a][both] && o.below[b][both], "the join is above both", a, b)
				for c := range o.size {
					o.must(!o.below[a][b] || !o.below[b][c] || o.below[a][c], "below goes on", a, b, c)
					o.must(!o.below[a][c] || !o.below[b][c] || o.below[both][c], "the join is the least", a, b, c)
					o.must(o.join[both][c] == o.join[a][o.join[b][c]], "joins in any grouping", a, b, c)
				}
			}
		}
	}
}

// TestFunctions: P14.7: functions are what they make of elements.
func TestFunctions(t *testing.T) {
	t.Parallel()
	for _, in := range small(15) {
		if in.Kind != api.TyFun {
			continue
		}
		o, from, to := orderOf(t, in), orderOf(t, in.Args[0]), orderOf(t, in.Args[1])
		var lists [][]int
		for f := range o.size {
			l := make([]int, from.size)
			for x := range l {
				v, code := lattice.Apply(in, f, x)
				o.want(code)
				l[x] = v
			}
			lists = append(lists, l)
			checkOf(t, in, l, f, api.OK)
			o.must(f == 0 || slices.Compare(lists[f-1], l) < 0, "numbered by the lists", f)
			for v := range to.size {
				edge, code := lattice.Edge(in, f, v)
				o.want(code)
				o.must(slices.IsSorted(edge), "the edge rises", f, v)
				for i, x := range edge {
					for j, y := range edge {
						o.must(i == j || !from.below[x][y], "none of the edge is below another one", f, v, x, y)
					}
				}
				for x := range from.size {
					some := slices.ContainsFunc(edge, func(y int) bool { return from.below[y][x] })
					o.must(some == to.below[v][l[x]], "what is above the edge", f, v, x)
				}
			}
		}
		for a, l := range lists {
			for b, m := range lists {
				each := slices.EqualFunc(l, m, func(v, w int) bool { return to.below[v][w] })
				o.must(each == o.below[a][b], "below at each element", a, b)
				for x := range from.size {
					o.must(lists[o.join[a][b]][x] == to.join[l[x]][m[x]], "the join at each element", a, b, x)
				}
			}
		}
	}
}

// roomy is the type with something in the spare room of its lists.
func roomy(t api.Type) api.Type {
	l := make([]api.Type, 0, len(t.Args)+2)
	for _, a := range t.Args {
		l = append(l, roomy(a))
	}
	t.Args = append(l, variable("spare"), number)[:len(l)]
	return t
}

// spared tells a type with what stands in the spare room of its lists.
func spared(t api.Type) string {
	text := told(t)
	for _, a := range t.Args[:cap(t.Args)] {
		text += ";" + spared(a)
	}
	return text
}

// TestNewMemory: P14.5, W6: what is handed in stays, with its spare room; what comes out is new each time, and nobody keeps it.
func TestNewMemory(t *testing.T) {
	t.Parallel()
	r := rand.New(rand.NewSource(5))
	for _, in := range small(11) {
		p := plainOf(in)
		if p.lists == nil {
			continue
		}
		in = roomy(varied(r, in))
		ahead := spared(in)
		for f, want := range p.lists {
			l := append(slices.Clone(want), 7, 8)
			checkOf(t, in, l[:len(want)], f, api.OK)
			if !slices.Equal(l[:len(want)], want) || l[len(want)] != 7 || l[len(want)+1] != 8 {
				t.Errorf("Of(%s, %v) changes them: %v", told(in), want, l)
			}
			clear(l)
			checkOf(t, in, want, f, api.OK)
			for v := range p.to.size() {
				one, _ := lattice.Edge(in, f, v)
				for i := range one[:cap(one)] {
					one[:cap(one)][i] = -5
				}
				checkEdge(t, in, f, v, p.edge(f, v), api.OK)
			}
			checkApply(t, in, f, 0, want[0], api.OK)
			checkBelow(t, in, 0, f, true, api.OK)
			checkJoin(t, in, 0, f, f, api.OK)
		}
		checkSize(t, in, p.size())
		if spared(in) != ahead {
			t.Errorf("%s has become %s", ahead, spared(in))
		}
	}
}

// TestAskedAnew: W2, P14.5: what was asked ahead, and what others ask at the same time, does not matter; nor does it whether lists are nil or empty (W5).
func TestAskedAnew(t *testing.T) {
	t.Parallel()
	ts := []api.Type{number, list(number), fun(number, number), fun(list(number), list(number)), fun(list(number), number), variable("a"), fun(fun(number, number), fun(number, number)), data("List"), {Kind: api.TyInt, Args: []api.Type{}}, fun(number, data("Bool", []api.Type{}...))}
	want := []int{2, 4, 3, 35, 5, 0, 10, 0, 2, 3}
	var all sync.WaitGroup
	for worker := range 4 {
		all.Go(func() {
			r := rand.New(rand.NewSource(int64(worker)))
			for range 2000 {
				i := r.Intn(len(ts))
				if n, code := lattice.Size(ts[i]); n != want[i] || (n > 0) != (code == api.OK) {
					t.Errorf("Size(%s): %d, %v", told(ts[i]), n, code)
				}
				if n, code := lattice.Of(ts[3], []int{0, 1, 2, 3}); n != 14 || code != api.OK {
					t.Errorf("Of: %d, %v", n, code)
				}
			}
		})
	}
	all.Wait()
	checkOf(t, ts[2], []int{}, 0, api.ErrLatticeElement)
	checkOf(t, ts[2], nil, 0, api.ErrLatticeElement)
}
