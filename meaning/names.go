package meaning

// place tells where a local name stands: in which part of the names in sight, and which one of that part it is.
type place struct{ level, at int }

// names are the local names in sight: a list of parts, each of which was bound at one time, the last one first. Lists share the parts that they have in common.
type names struct {
	level   int    // how many parts there are, with this one
	up, far *names // the part ahead, and one far ahead: so that the way to a part grows as the logarithm of their number
	cells   []*cell
	let     *letCells // where a let bound them; else nil
}

// letCells are the cells of a let. It may bind very many names, of which few are asked for each time that it is worked out: so a cell is made when its name is asked for first.
type letCells struct {
	values []expr
	made   map[int]*cell
}

// noNames are in sight of a definition. They lead to themselves, so that every list has parts far ahead.
func noNames() *names {
	n := &names{}
	n.up, n.far = n, n
	return n
}

// part is the list with one part more, in which no name stands as yet. Where the two last ways far ahead are as long as each other, a way as long as both together follows.
func (n *names) part() *names {
	far := n
	if n.level-n.far.level == n.far.level-n.far.far.level {
		far = n.far.far
	}
	return &names{level: n.level + 1, up: n, far: far}
}

func (n *names) with(cells ...*cell) *names {
	n = n.part()
	n.cells = cells
	return n
}

// withLet binds the names of a let, which all its values see.
func (n *names) withLet(values []expr) *names {
	n = n.part()
	n.let = &letCells{values: values, made: map[int]*cell{}}
	return n
}

// cell is what the name at a place stands for.
func (n *names) cell(p place) *cell {
	for n.level > p.level {
		n = n.towards(p.level)
	}
	if n.let == nil {
		return n.cells[p.at]
	}
	c, ok := n.let.made[p.at]
	if !ok {
		c = &cell{late{&n.let.values[p.at], n}}
		n.let.made[p.at] = c
	}
	return c
}

// towards is as far ahead as one way leads without passing a part by.
func (n *names) towards(level int) *names {
	if n.far.level >= level {
		return n.far
	}
	return n.up
}
