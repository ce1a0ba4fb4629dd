package lattice

import (
	"sloth/api"
	"sloth/types"
)

// How many elements a list has, and everything else that is no function.
const (
	listSize  = 4
	plainSize = 2
)

// shape is what an order is made of: a chain of so many elements, or (chain 0) the functions from one order to another one, by their numbers.
type shape struct{ chain, from, to int }

// orders are those of the types that a call meets. Types of one shape have one order, which is nil, if it has too many elements.
type orders struct{ found kept[shape, *order] }

// orderOf tells a type's order; ErrLatticeType, if it has no elements.
func orderOf(t api.Type) (*order, api.Errno) {
	if !isGround(t) {
		return nil, api.ErrLatticeType
	}
	k := orders{found: kept[shape, *order]{numbers: map[shape]int{}}}
	number, ok := k.of(t)
	if !ok {
		return nil, api.ErrLatticeType
	}
	return k.found.values[number], api.OK
}

// functionsOf tells a function type's order; ErrLatticeType, if the type is none.
func functionsOf(t api.Type) (*order, api.Errno) {
	if t.Kind != api.TyFun {
		return nil, api.ErrLatticeType
	}
	return orderOf(t)
}

// isGround tells whether a type may be, has at most MaxType nodes, and no variable stands in it. One that is too great is not gone through to its end.
func isGround(t api.Type) bool {
	nodes := 0
	for rest := []api.Type{t}; len(rest) > 0; nodes++ {
		last := len(rest) - 1
		node := rest[last]
		if nodes == api.MaxType || node.Kind == api.TyVar {
			return false
		}
		rest = append(rest[:last], node.Args...)
	}
	_, code := types.Canon(t)
	return code == api.OK
}

// of tells the number of a ground type's order; false, if it has none.
func (k *orders) of(t api.Type) (int, bool) {
	switch {
	case t.Kind == api.TyFun:
		return k.ofFunction(t)
	case t.Kind != api.TyData || t.Name != "List":
		return k.found.number(shape{chain: plainSize}, k.work), true
	case len(t.Args) == 1:
		return k.found.number(shape{chain: listSize}, k.work), true
	}
	return 0, false
}

func (k *orders) ofFunction(t api.Type) (int, bool) {
	from, ok := k.of(t.Args[0])
	if !ok {
		return 0, false
	}
	to, ok := k.of(t.Args[1])
	if !ok {
		return 0, false
	}
	number := k.found.number(shape{from: from, to: to}, k.work)
	return number, k.found.values[number] != nil
}

func (k *orders) work(s shape) *order {
	if s.chain > 0 {
		return chain(s.chain)
	}
	return functions(k.found.values[s.from], k.found.values[s.to])
}
