package elab

import (
	"slices"

	"sloth/api"
	"sloth/match"
	"sloth/typing"
)

// place is where something is looked at: the number of a local name and, while a constructor is known to stand there, its fields.
type place struct {
	name   int
	fields []place
}

// places are so many new names.
func (d *definer) places(n int) []place {
	l := make([]place, n)
	for i := range l {
		l[i].name = d.fresh()
	}
	return l
}

// function makes a function of clauses.
func (d *definer) function(rows []typing.Row) api.Expr {
	columns := d.places(len(rows[0].Types))
	e := d.rows(columns, rows)
	for i, c := range slices.Backward(columns) {
		e = d.lambda(c.name, d.worth(rows[0].Types[i]), e)
	}
	return e
}

// switches makes the expression of a tree.
type switches struct {
	*definer
	columns []place
	leaves  []leaf // of the rows
	answer  api.Type
}

// leaf is a row as it comes to its places in a tree.
type leaf struct {
	pats []api.Pat
	put  func(names []int) api.Expr // what stands there, where the row's variables have these names
}

// rows makes an expression of rows that are looked at in some places.
func (d *definer) rows(columns []place, rows []typing.Row) api.Expr {
	pats := make([][]api.Pat, len(rows))
	for i := range rows {
		pats[i] = rows[i].Pats
	}
	tree, _, code := match.Compile(d.familiesOf(pats), pats)
	if code != api.OK {
		d.failed = true
		return api.Expr{}
	}
	s := switches{definer: d, columns: columns, answer: d.worth(rows[0].Body.Type)}
	times := make([]int, len(rows))
	count(&tree, times)
	var shared []api.Bind
	for i := range rows {
		r := &row{definer: d, of: &rows[i]}
		l := leaf{pats: pats[i], put: r.here}
		if times[i] > 1 {
			shared = append(shared, r.share(s.answer))
			l.put = r.call
		}
		s.leaves = append(s.leaves, l)
	}
	e := s.tree(&tree)
	if len(shared) > 0 {
		e = d.let(shared, e)
	}
	return e
}

// count counts how often a tree comes to each row.
func count(t *api.Tree, times []int) {
	if t.Kind == api.TreeRow {
		times[t.Row]++
	}
	for i := range t.Cases {
		count(&t.Cases[i].Then, times)
	}
	for i := range t.Else {
		count(&t.Else[i], times)
	}
}

func (s *switches) tree(t *api.Tree) api.Expr {
	switch t.Kind {
	case api.TreeFail:
		return s.stuck(api.StuckMatch, s.answer)
	case api.TreeRow:
		l := &s.leaves[t.Row]
		return l.put(namesAt(l.pats, s.columns, nil))
	}
	at := s.at(t.Path)
	var alts []api.Alt
	for i := range t.Cases {
		alts = append(alts, s.alt(at, &t.Cases[i]))
	}
	for i := range t.Else {
		alts = append(alts, api.Alt{Kind: api.AltElse, Body: s.tree(&t.Else[i])})
	}
	return s.choose(s.local(at.name), alts)
}

func (s *switches) at(path []int) *place {
	p := &s.columns[path[0]]
	for _, field := range path[1:] {
		p = &p.fields[field]
	}
	return p
}

// alt makes the alternative of a Case, in which the fields of its constructor have places.
func (s *switches) alt(at *place, c *api.Case) api.Alt {
	if c.Con == "" {
		return api.Alt{Kind: api.AltInt, Num: c.Num, Body: s.tree(&c.Then)}
	}
	a := api.Alt{Kind: api.AltCon, Con: c.Con}
	at.fields = s.places(s.cons[c.Con].fields)
	for _, f := range at.fields {
		a.Vars = append(a.Vars, nameOf(f.name))
	}
	a.Body = s.tree(&c.Then)
	at.fields = nil
	return a
}

// namesAt puts the names at the places of the variables of patterns behind others, from the left.
func namesAt(pats []api.Pat, places []place, names []int) []int {
	for i, p := range pats {
		switch p.Kind {
		case api.PatVar:
			names = append(names, places[i].name)
		case api.PatCon:
			names = namesAt(p.Args, places[i].fields, names)
		}
	}
	return names
}
