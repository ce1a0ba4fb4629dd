package lattice_test

import (
	"testing"
	"time"

	"sloth/api"
	"sloth/lattice"
)

// TestMaxLattice: P14.1: function types with MaxLattice elements and more.
func TestMaxLattice(t *testing.T) {
	for arrows := 1; arrows <= 45; arrows++ {
		in := leftwards(number, arrows)
		if size := arrows + 2; size <= api.MaxLattice {
			checkSize(t, in, size)
		} else {
			checkNone(t, in)
		}
	}
	at, above := leftwards(number, 38), leftwards(number, 39)
	checkSize(t, leftwards(list(number), 36), api.MaxLattice)
	checkNone(t, leftwards(list(number), 37))
	checkSize(t, fun(number, rightwards(2, number)), 20)
	checkNone(t, rightwards(4, number)) // 168
	checkSize(t, fun(list(number), fun(fun(number, number), number)), 35)
	checkNone(t, fun(list(number), fun(number, list(number))))
	checkNone(t, fun(list(number), fun(list(number), number))) // 70
	checkSize(t, fun(fun(list(number), number), fun(number, number)), 21)
	checkNone(t, fun(fun(list(number), number), list(number))) // 56
	for _, in := range []api.Type{at, above, fun(list(number), fun(list(number), number)), rightwards(9, number), leftwards(number, 110), rightwards(110, number)} {
		// within, as soon as a part has too many elements, and where that part has just as many as may be: the whole has more
		for _, around := range []api.Type{fun(in, number), fun(number, in), fun(in, in), fun(list(number), in), fun(fun(number, in), number), fun(fun(number, number), in), fun(number, fun(list(in), in))} {
			checkNone(t, around)
		}
		// within the Args of a data type it does not matter
		for _, arg := range []api.Type{in, fun(in, number), fun(number, in), list(in)} {
			checkSize(t, list(arg), 4)
			checkSize(t, data("T", arg), 2)
			checkSize(t, fun(list(arg), data("T", arg)), 5)
			checkSize(t, fun(data("T", arg), list(arg)), 10)
		}
	}
	checkApply(t, at, 1, 38, 1, api.OK)
	checkApply(t, at, 1, 37, 0, api.OK)
	checkEdge(t, at, 17, 1, []int{22}, api.OK)
	checkJoin(t, at, 17, 22, 22, api.OK)
	checkBelow(t, at, 22, 17, false, api.OK)
	results := make([]int, 39)
	for x := range results {
		checkOf(t, at, results, x, api.OK)
		results[38-x] = 1
	}
	checkOf(t, at, results, 39, api.OK)
	results[38] = 0
	checkOf(t, at, results, 0, api.ErrLatticeElement)
}

// TestMaxType: P14.1: MaxType nodes and one more.
func TestMaxType(t *testing.T) {
	const arrows = (api.MaxType - 2) / 2
	row := rightwards(arrows, number) // one node less than may be
	for _, in := range []api.Type{list(row), list(leftwards(number, arrows))} {
		if plainNodes(in) != api.MaxType {
			t.Fatal("the test's own type has so many nodes:", plainNodes(in))
		}
		checkSize(t, in, 4)
		checkNone(t, list(in))
		checkNone(t, data("T", in))
		checkNone(t, fun(number, in))
	}
	checkSize(t, data("T", row), 2)
	checkNone(t, data("T", row, number))
	checkNone(t, data("T", number, row))
	deep := number
	for range api.MaxType - 1 {
		deep = list(deep)
	}
	checkSize(t, deep, 4)
	checkNone(t, list(deep))
	checkNone(t, data("T", deep))
	half := list(rightwards(arrows/2-1, number))
	checkSize(t, fun(half, half), 35)
	checkSize(t, fun(half, data("T", half.Args[0], number, number)), 5)
	checkNone(t, fun(half, data("T", half.Args[0], number, number, number, number)))
}

// TestLongNames: P14.1: a type may have elements though its text would be above MaxText.
func TestLongNames(t *testing.T) {
	long := data(name("M.T", api.MaxName))
	for range 7 {
		long = data(name("T", api.MaxName), long, long)
	}
	if plainNodes(long) > api.MaxType || len(told(long)) <= api.MaxText {
		t.Fatal("the test's own type")
	}
	checkSize(t, long, 2)
	checkSize(t, list(long), 4)
	checkSize(t, fun(long, list(data(name("T", api.MaxName)))), 10)
	checkNone(t, list(data("T", long, data(name("T", api.MaxName+1)))))
}

// TestVeryGreat: W1: what is far above MaxType is refused soon, though its parts are shared and may be too.
func TestVeryGreat(t *testing.T) {
	for _, double := range []func(api.Type) api.Type{
		func(in api.Type) api.Type { return fun(in, in) },
		func(in api.Type) api.Type { return data("T", in, in) },
	} {
		in := number
		for range 24 {
			in = double(in)
		}
		start := time.Now()
		for range 100 {
			checkGreat(t, in)
			checkGreat(t, list(in))
		}
		if time.Since(start) > 20*time.Second {
			t.Error("too long")
		}
	}
}

func checkGreat(t *testing.T, in api.Type) {
	t.Helper()
	if n, code := lattice.Size(in); n != 0 || code != api.ErrLatticeType {
		t.Errorf("Size: %d, %v", n, code)
	}
}
