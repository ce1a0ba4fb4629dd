package lattice_test

import (
	"testing"

	"sloth/api"
	"sloth/lattice"
)

// wrongTypes may not be, by chapter 5, or are, or have, a variable.
func wrongTypes() []api.Type {
	many := make([]api.Type, api.MaxParams+1)
	for i := range many {
		many[i] = number
	}
	l := []api.Type{
		{}, {Kind: -1}, {Kind: 5}, {Name: "List", Args: []api.Type{number}},
		{Kind: api.TyInt, Name: "Int"}, {Kind: api.TyInt, Args: []api.Type{number}},
		{Kind: api.TyFun}, {Kind: api.TyFun, Args: many[:1]}, {Kind: api.TyFun, Args: many[:3]}, {Kind: api.TyFun, Name: "f", Args: many[:2]}, {Kind: api.TyFun, Name: "->", Args: many[:2]},
		data("T", many...), data("List", many...), data(""), data("Int"), data("t"), data("list", number), data("M."), data(".T"), data("M.N.T"), data("M.t"), data("m.T"), data("T-"), data("T\x80"), data("List ", number), data(" List", number), data("Int", number), data(name("T", api.MaxName+1)),
		{Kind: api.TyVar}, {Kind: api.TyVar, Name: "A"}, {Kind: api.TyVar, Name: "List", Args: many[:1]}, {Kind: api.TyVar, Name: "a", Args: many[:1]}, {Kind: api.TyVar, Name: name("a", api.MaxName+1)},
		variable("a"), variable("list"), variable("a1"), variable(name("a", api.MaxName)),
	}
	return l
}

// places are types in which another one stands somewhere.
func places(in api.Type) []api.Type {
	return []api.Type{
		in, fun(in, number), fun(number, in), fun(in, in), fun(fun(number, in), number), fun(number, fun(in, number)),
		list(in), data("T", in), data("M.T", number, in), data("T", number, number, number, number, number, in), list(list(in)), list(fun(number, in)), data("T", fun(in, number)),
		fun(number, list(in)), fun(data("T", number, list(in)), number), list(data("T", number, fun(number, data("U", in)))),
	}
}

// TestWrongTypes: P14.1 to P14.4: what may not be and what is a variable has no elements, wherever it stands.
func TestWrongTypes(t *testing.T) {
	for _, wrong := range wrongTypes() {
		for _, in := range places(wrong) {
			checkNone(t, in)
		}
	}
	for _, right := range []api.Type{number, data(name("T", api.MaxName)), data("M.List"), data("M.Int"), data("T'_0z.T'"), data("T", number, number, number, number, number, number)} {
		for _, in := range places(right) {
			if _, code := lattice.Size(in); code != api.OK {
				t.Errorf("Size(%s): %v", short(told(in)), code)
			}
		}
	}
}

// TestLists: P14.1: List has one Arg where it does not stand within a data type's Args.
func TestLists(t *testing.T) {
	for _, odd := range []api.Type{data("List"), data("List", number, number), data("List", number, number, number, number, number, number)} {
		for _, in := range []api.Type{odd, fun(odd, number), fun(number, odd), fun(odd, odd), fun(fun(odd, number), number), fun(number, fun(number, odd))} {
			checkNone(t, in)
		}
		checkSize(t, list(odd), 4)
		checkSize(t, list(fun(odd, odd)), 4)
		checkSize(t, list(list(odd)), 4)
		checkSize(t, data("T", odd), 2)
		checkSize(t, data("T", number, fun(number, odd)), 2)
		checkSize(t, data("T", data("U", odd)), 2)
		checkSize(t, fun(list(odd), data("T", odd)), 5)
		checkSize(t, fun(number, list(fun(odd, number))), 10)
		checkNone(t, fun(list(odd), odd))
		// only the Args within are passed over
		checkNone(t, data("List", list(odd), number))
	}
	// a data type is told by its name alone, and by all of it
	for _, name := range []string{"M.List", "List.List", "List1", "Lis", "Nil", "Cons", "LIST"} {
		checkSize(t, data(name), 2)
		checkSize(t, data(name, number), 2)
		checkSize(t, data(name, number, number), 2)
	}
}

// TestNoElement: P14.2 to P14.4: numbers that are no elements, at each place.
func TestNoElement(t *testing.T) {
	const none = api.ErrLatticeElement
	for _, x := range []struct {
		in             api.Type
		size, from, to int // from 0: no function type
	}{
		{number, 2, 0, 0}, {data("T", number), 2, 0, 0}, {list(number), 4, 0, 0},
		{fun(number, number), 3, 2, 2}, {fun(list(number), number), 5, 4, 2}, {fun(number, list(number)), 10, 2, 4}, {fun(list(number), list(number)), 35, 4, 4},
		{fun(fun(number, number), number), 4, 3, 2}, {fun(number, fun(number, number)), 6, 2, 3}, {leftwards(number, 38), 40, 39, 2},
	} {
		for _, bad := range []int{-1, x.size, x.size + 1, api.MaxInt, api.MinInt, 64, 1 << 32} {
			for _, other := range []int{0, x.size - 1, bad} {
				checkBelow(t, x.in, bad, other, false, none)
				checkBelow(t, x.in, other, bad, false, none)
				checkJoin(t, x.in, bad, other, 0, none)
				checkJoin(t, x.in, other, bad, 0, none)
			}
			if x.from > 0 {
				for _, other := range []int{0, x.from - 1, x.from} {
					checkApply(t, x.in, bad, other, 0, none)
				}
				for _, other := range []int{0, x.to - 1, x.to} {
					checkEdge(t, x.in, bad, other, nil, none)
				}
			}
		}
		if x.from == 0 {
			checkNoFunction(t, x.in)
			continue
		}
		for _, bad := range []int{-1, x.to, x.to + 1, api.MaxInt, api.MinInt} {
			for at := range x.from {
				results := make([]int, x.from)
				results[at] = bad
				checkOf(t, x.in, results, 0, none)
			}
		}
		for _, f := range []int{0, x.size - 1} {
			for _, bad := range []int{-1, x.from, x.from + 1, api.MaxInt, api.MinInt} {
				checkApply(t, x.in, f, bad, 0, none)
			}
			for _, bad := range []int{-1, x.to, x.to + 1, api.MaxInt, api.MinInt} {
				checkEdge(t, x.in, f, bad, nil, none)
			}
		}
		// the numbers just within are elements
		checkBelow(t, x.in, 0, x.size-1, true, api.OK)
		checkBelow(t, x.in, x.size-1, 0, false, api.OK)
		checkJoin(t, x.in, x.size-1, 0, x.size-1, api.OK)
		checkApply(t, x.in, x.size-1, x.from-1, x.to-1, api.OK)
		checkApply(t, x.in, 0, x.from-1, 0, api.OK)
		checkEdge(t, x.in, x.size-1, x.to-1, []int{0}, api.OK)
		checkEdge(t, x.in, 0, x.to-1, nil, api.OK)
	}
}

// TestFirstError: the type's error comes ahead of the elements', also that the type is no function type.
func TestFirstError(t *testing.T) {
	for _, in := range []api.Type{variable("a"), data("List"), {}, leftwards(number, 39), fun(variable("a"), number), list(variable("a"))} {
		checkNone(t, in)
	}
	for _, in := range []api.Type{number, data("Bool"), list(number), list(fun(number, number)), data("T", fun(number, number)), {Kind: api.TyData, Name: "T", Args: []api.Type{number, number}}} {
		checkNoFunction(t, in)
	}
}
