package strict

import (
	"sloth/api"
	"sloth/typed"
	"sloth/walk"
)

// world is what a program says.
type world struct {
	*orders
	cons  map[string]typed.Con
	defs  map[string]*definition
	cells map[int]*table // of Cons, by the numbers of the heads' orders
}

// built is a program's definitions, of which all is known but what stands in the tables.
func built(p api.Program) []*definition {
	w := &world{orders: newOrders(), cons: typed.Cons(p.Datas), defs: map[string]*definition{}, cells: map[int]*table{}}
	defs := make([]*definition, len(p.Defs))
	for i := range p.Defs {
		d := &p.Defs[i]
		defs[i] = &definition{table: w.empty(d), place: i, name: d.Name, typ: d.Type}
		w.defs[d.Name] = defs[i]
	}
	for i := range p.Defs {
		w.build(defs[i], &p.Defs[i].Body)
	}
	return defs
}

// empty is a definition's table, in which nothing stands as yet.
func (w *world) empty(d *api.Def) table {
	_, arity := walk.Body(&d.Body)
	params, left := make([]*order, arity), d.Type
	for i := range params {
		params[i], left = w.orderOf(left.Args[0]), left.Args[1]
	}
	return newTable(params, w.orderOf(left))
}

// cell is the table of Cons.
func (w *world) cell(head *order) *table {
	t, ok := w.cells[head.number]
	if !ok {
		t = consTable(head, w.list)
		w.cells[head.number] = t
	}
	return t
}

// behindArgs is what is left of a function's type behind so many arguments.
func behindArgs(t api.Type, args int) api.Type {
	for range args {
		t = t.Args[1]
	}
	return t
}
