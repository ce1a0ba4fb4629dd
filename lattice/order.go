package lattice

import (
	"math/bits"
	"slices"

	"sloth/api"
)

// order is the elements of a type. Whatever is below another one has the lesser number.
type order struct {
	above    []set   // of each element: itself, and all that it is below of
	from, to *order  // of functions: the orders of what they take and of what they answer
	results  [][]int // of functions: each one's, in the order of the lists
}

// set is some elements of one order, a bit each: MaxLattice are at most 64.
type set uint64

func (s set) has(a int) bool { return s>>a&1 == 1 }

// first is the elements with numbers below that one.
func first(number int) set { return 1<<number - 1 }

// chain is an order in which each element is below the next.
func chain(size int) *order {
	o := &order{}
	for a := range size {
		o.above = append(o.above, first(size)&^first(a))
	}
	return o
}

// functions is the order of the monotone functions from one order to another one; nil, if they are too many.
func functions(from, to *order) *order {
	o := &order{from: from, to: to}
	if !o.find(make([]int, 0, from.size())) {
		return nil
	}
	for f := range o.results {
		o.above = append(o.above, o.greater(f))
	}
	return o
}

// find finds all results that begin so, and tells whether they are few enough. The greatest ones may always come next, so no way is gone in vain.
func (o *order) find(begun []int) bool {
	if len(begun) == o.from.size() {
		o.results = append(o.results, slices.Clone(begun))
		return len(o.results) <= api.MaxLattice
	}
	may := o.next(begun)
	for v := range o.to.size() {
		if may.has(v) && !o.find(append(begun, v)) {
			return false
		}
	}
	return true
}

// next is what may come behind some results: what all those at elements below the next one are below of. These have lesser numbers, so their results are there.
func (o *order) next(begun []int) set {
	may := first(o.to.size())
	for x, v := range begun {
		if o.from.below(x, len(begun)) {
			may &= o.to.above[v]
		}
	}
	return may
}

// greater is a function and all that it is below of: these come behind it, as their lists do.
func (o *order) greater(f int) set {
	var found set
	for g := range o.results {
		if f <= g && slices.EqualFunc(o.results[f], o.results[g], o.to.below) {
			found |= 1 << g
		}
	}
	return found
}

func (o *order) size() int { return len(o.above) }

func (o *order) has(a int) bool { return 0 <= a && a < o.size() }

// below tells whether an element is below another one, or the same.
func (o *order) below(a, b int) bool { return o.above[a].has(b) }

// join is the first of those that two are below of: it is below all others of them.
func (o *order) join(a, b int) int {
	return bits.TrailingZeros64(uint64(o.above[a] & o.above[b]))
}

// edge is the least elements of which a function makes v or more.
func (o *order) edge(f, v int) []int {
	var least []int
	for x := range o.from.size() {
		if o.to.below(v, o.results[f][x]) && !slices.ContainsFunc(least, func(y int) bool { return o.from.below(y, x) }) {
			least = append(least, x)
		}
	}
	return least
}
