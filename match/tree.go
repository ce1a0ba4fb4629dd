package match

import (
	"slices"

	"sloth/api"
)

// maker makes a tree, and counts its nodes.
type maker struct {
	known
	nodes int
}

// tree makes the tree of some rows, which are told by their numbers; columns holds what is not yet looked at.
func (m *maker) tree(columns []*column, rows []int) api.Tree {
	m.nodes++
	if m.nodes > api.MaxTree { // it is refused: what more there is does not matter
		return api.Tree{}
	}
	if len(rows) == 0 {
		return api.Tree{Kind: api.TreeFail}
	}
	at := slices.IndexFunc(columns, func(c *column) bool { return c.has[rows[0]] })
	if at < 0 {
		return api.Tree{Kind: api.TreeRow, Row: rows[0]}
	}
	return m.branch(columns, at, rows)
}

// branch makes the switch that looks at a column.
func (m *maker) branch(columns []*column, at int, rows []int) api.Tree {
	looked := columns[at]
	spots := looked.of(rows)
	path := join(looked.around, looked.number)
	t := api.Tree{Kind: api.TreeSwitch, Path: path, Cases: m.cases(spots)}
	for i := range t.Cases {
		c := &t.Cases[i]
		met, others := split(spots, *c)
		fields := m.within(met, c.Con, path)
		c.Then = m.tree(cut(columns, at, fields...), without(rows, others))
	}
	if !m.isFull(t.Cases) {
		t.Else = []api.Tree{m.tree(cut(columns, at), without(rows, spots))}
	}
	return t
}

func nestOf(t api.Tree) int {
	deepest := 0
	for _, c := range t.Cases {
		deepest = max(deepest, nestOf(c.Then))
	}
	for _, e := range t.Else {
		deepest = max(deepest, nestOf(e))
	}
	return deepest + 1
}
