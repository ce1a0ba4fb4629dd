package strict

import (
	"sloth/api"
	"sloth/lattice"
	"sloth/typed"
)

// orders are those of a program's types. Types of one shape have one order, which lattice is asked for once.
type orders struct {
	plain, list, unknown *order
	functions            map[arrow]*order
	count                int
}

// arrow is the shape of a function type: the numbers of the orders of what it takes and of what it answers.
type arrow struct{ from, to int }

func newOrders() *orders {
	k := &orders{unknown: &order{size: 1}, functions: map[arrow]*order{}}
	integer := api.Type{Kind: api.TyInt}
	k.plain = k.ask(integer)
	k.list = k.ask(api.Type{Kind: api.TyData, Name: "List", Args: []api.Type{integer}})
	return k
}

func (k *orders) ask(t api.Type) *order {
	size, code := lattice.Size(t)
	if code != api.OK {
		return k.unknown
	}
	k.count++
	return &order{number: k.count, typ: t, size: size}
}

// orderOf is the order of a type of a right program.
func (k *orders) orderOf(t api.Type) *order {
	switch {
	case t.Kind == api.TyFun:
		return k.function(k.orderOf(t.Args[0]), k.orderOf(t.Args[1]))
	case isList(t):
		return k.list
	}
	return k.plain
}

func isList(t api.Type) bool { return t.Kind == api.TyData && t.Name == "List" }

func (k *orders) function(from, to *order) *order {
	if !from.isKnown() || !to.isKnown() {
		return k.unknown
	}
	shape := arrow{from.number, to.number}
	o, ok := k.functions[shape]
	if !ok {
		o = k.ask(typed.Function([]api.Type{from.typ}, to.typ))
		if o.isKnown() {
			o.from, o.to = from, to
			o.learn()
		}
		k.functions[shape] = o
	}
	return o
}
