package match_test

import (
	"fmt"
	"slices"

	"sloth/api"
)

// The second form of Compile goes by the chapter's words, one by one, and shares nothing: rows are whole lists of patterns, each cut and copied at each switch.

func plainCompile(fams []api.Family, l [][]api.Pat) (api.Tree, api.Coverage, api.Errno) {
	if len(l) > api.MaxRows || slices.ContainsFunc(l, func(row []api.Pat) bool { return len(row) > api.MaxColumns }) {
		return api.Tree{}, api.Coverage{}, api.ErrLong
	}
	if !plainTable(fams) {
		return api.Tree{}, api.Coverage{}, api.ErrMatchTable
	}
	p := plain{fams: fams}
	if !p.rightRows(l) {
		return api.Tree{}, api.Coverage{}, api.ErrMatchRow
	}
	tree := p.first(l)
	if p.nodes > api.MaxTree {
		return api.Tree{}, api.Coverage{}, api.ErrBig
	}
	deep := plainNest(tree) > api.MaxNest
	for _, row := range l {
		for _, x := range row {
			deep = deep || plainDepth(x) > api.MaxNest
		}
	}
	if deep {
		return api.Tree{}, api.Coverage{}, api.ErrNest
	}
	return tree, p.coverage(tree, l), api.OK
}

func plainTable(fams []api.Family) bool {
	var names []string
	for _, f := range fams {
		if len(f.Cons) < 1 || len(f.Cons) > api.MaxCons || len(f.Cons) != len(f.Fields) {
			return false
		}
		for _, n := range f.Fields {
			if n < 0 || n > api.MaxFields {
				return false
			}
		}
		names = append(names, f.Cons...)
	}
	slices.Sort(names)
	return !slices.Contains(names, "") && len(slices.Compact(slices.Clone(names))) == len(names)
}

// plain holds the families, and counts nodes.
type plain struct {
	fams  []api.Family
	nodes int
}

// family tells the family of a constructor, and its place there; -1, if there is none.
func (p *plain) family(name string) (int, int) {
	for i, f := range p.fams {
		if at := slices.Index(f.Cons, name); at >= 0 {
			return i, at
		}
	}
	return -1, -1
}

func (p *plain) fields(name string) int {
	i, at := p.family(name)
	return p.fams[i].Fields[at]
}

func (p *plain) rightRows(l [][]api.Pat) bool {
	for _, row := range l {
		if len(row) != len(l[0]) {
			return false
		}
	}
	for c := 0; len(l) > 0 && c < len(l[0]); c++ {
		var column []api.Pat
		for _, row := range l {
			column = append(column, row[c])
		}
		if !p.rightColumn(column) {
			return false
		}
	}
	return true
}

func (p *plain) rightColumn(column []api.Pat) bool {
	var ints, cons []api.Pat
	for _, x := range column {
		switch x.Kind {
		case api.PatWild, api.PatVar:
		case api.PatInt:
			ints = append(ints, x)
		case api.PatCon:
			cons = append(cons, x)
		default:
			return false
		}
	}
	for _, x := range ints {
		if x.Num < api.MinInt || x.Num > api.MaxInt {
			return false
		}
	}
	return len(cons) == 0 || len(ints) == 0 && p.rightCons(cons)
}

func (p *plain) rightCons(cons []api.Pat) bool {
	family, _ := p.family(cons[0].Name)
	if family < 0 {
		return false
	}
	for i, name := range p.fams[family].Cons {
		columns := make([][]api.Pat, p.fams[family].Fields[i])
		for _, x := range cons {
			if x.Name != name {
				continue
			}
			if len(x.Args) != len(columns) {
				return false
			}
			for f, a := range x.Args {
				columns[f] = append(columns[f], a)
			}
		}
		if slices.ContainsFunc(columns, func(c []api.Pat) bool { return !p.rightColumn(c) }) {
			return false
		}
	}
	return !slices.ContainsFunc(cons, func(x api.Pat) bool { return !slices.Contains(p.fams[family].Cons, x.Name) })
}

// plainRow is a row with its number.
type plainRow struct {
	number int
	pats   []api.Pat
}

func plainWild(x api.Pat) bool { return x.Kind == api.PatWild || x.Kind == api.PatVar }

func (p *plain) first(l [][]api.Pat) api.Tree {
	var work []plainRow
	var paths [][]int
	for i, row := range l {
		work = append(work, plainRow{i, row})
	}
	for c := 0; len(l) > 0 && c < len(l[0]); c++ {
		paths = append(paths, []int{c})
	}
	return p.tree(paths, work)
}

func (p *plain) tree(paths [][]int, l []plainRow) api.Tree {
	p.nodes++
	if p.nodes > api.MaxTree {
		return api.Tree{}
	}
	if len(l) == 0 {
		return api.Tree{Kind: api.TreeFail}
	}
	c := slices.IndexFunc(l[0].pats, func(x api.Pat) bool { return !plainWild(x) })
	if c < 0 {
		return api.Tree{Kind: api.TreeRow, Row: l[0].number}
	}
	t := api.Tree{Kind: api.TreeSwitch, Path: slices.Clone(paths[c])}
	whole := false
	if slices.ContainsFunc(l, func(r plainRow) bool { return r.pats[c].Kind == api.PatCon }) {
		family, _ := p.family(l[0].pats[c].Name)
		whole = true
		for _, name := range p.fams[family].Cons {
			is := func(x api.Pat) bool { return x.Kind == api.PatCon && x.Name == name }
			if !slices.ContainsFunc(l, func(r plainRow) bool { return is(r.pats[c]) }) {
				whole = false
				continue
			}
			t.Cases = append(t.Cases, api.Case{Con: name, Then: p.chosen(paths, l, c, p.fields(name), is)})
		}
	} else {
		for _, n := range plainNumbers(l, c) {
			is := func(x api.Pat) bool { return x.Kind == api.PatInt && x.Num == n }
			t.Cases = append(t.Cases, api.Case{Num: n, Then: p.chosen(paths, l, c, 0, is)})
		}
	}
	if !whole {
		none := func(api.Pat) bool { return false }
		t.Else = []api.Tree{p.chosen(paths, l, c, 0, none)}
	}
	return t
}

func plainNumbers(l []plainRow, c int) []int {
	var all []int
	for _, r := range l {
		if r.pats[c].Kind == api.PatInt {
			all = append(all, r.pats[c].Num)
		}
	}
	slices.Sort(all)
	return slices.Compact(all)
}

// chosen is the tree of those rows whose pattern in c is wild or a certain one, with so many fields in its place.
func (p *plain) chosen(paths [][]int, l []plainRow, c, fields int, is func(api.Pat) bool) api.Tree {
	var inner [][]int
	for f := range fields {
		inner = append(inner, append(slices.Clone(paths[c]), f))
	}
	var next []plainRow
	for _, r := range l {
		args := times(fields, wild)
		if is(r.pats[c]) && fields > 0 {
			args = r.pats[c].Args
		} else if !is(r.pats[c]) && !plainWild(r.pats[c]) {
			continue
		}
		next = append(next, plainRow{r.number, slices.Concat(r.pats[:c], args, r.pats[c+1:])})
	}
	return p.tree(slices.Concat(paths[:c], inner, paths[c+1:]), next)
}

func plainNest(t api.Tree) int {
	most := 0
	for _, c := range t.Cases {
		most = max(most, plainNest(c.Then))
	}
	for _, e := range t.Else {
		most = max(most, plainNest(e))
	}
	return 1 + most
}

func plainDepth(x api.Pat) int {
	most := 0
	if x.Kind == api.PatCon {
		for _, a := range x.Args {
			most = max(most, plainDepth(a))
		}
	}
	return 1 + most
}

// plainWay is the way to a leaf: which constructor or number stands at which paths.
type plainWay struct {
	leaf api.Tree
	at   map[string]api.Pat
}

// ways tells all ways down, in order.
func (p *plain) ways(t api.Tree, at map[string]api.Pat) []plainWay {
	if t.Kind != api.TreeSwitch {
		return []plainWay{{t, at}}
	}
	var l []plainWay
	down := func(next api.Tree, x api.Pat) {
		more := map[string]api.Pat{fmt.Sprint(t.Path): x}
		for path, y := range at {
			more[path] = y
		}
		l = append(l, p.ways(next, more)...)
	}
	for _, c := range t.Cases {
		if c.Con != "" {
			down(c.Then, con(c.Con))
		} else {
			down(c.Then, num(c.Num))
		}
	}
	for _, e := range t.Else {
		down(e, p.other(t.Cases))
	}
	return l
}

func (p *plain) other(cases []api.Case) api.Pat {
	has := func(is func(api.Case) bool) bool { return slices.ContainsFunc(cases, is) }
	if cases[0].Con == "" {
		n := 0
		for has(func(c api.Case) bool { return c.Num == n }) {
			n++
		}
		return num(n)
	}
	i, _ := p.family(cases[0].Con)
	for _, name := range p.fams[i].Cons {
		if !has(func(c api.Case) bool { return c.Con == name }) {
			return con(name)
		}
	}
	panic("all constructors have a Case, and there is an Else")
}

func (p *plain) coverage(t api.Tree, l [][]api.Pat) api.Coverage {
	c := api.Coverage{Whole: true}
	ways := p.ways(t, nil)
	for i := range l {
		if !slices.ContainsFunc(ways, func(w plainWay) bool { return w.leaf.Kind == api.TreeRow && w.leaf.Row == i }) {
			c.Idle = append(c.Idle, i)
		}
	}
	fail := slices.IndexFunc(ways, func(w plainWay) bool { return w.leaf.Kind == api.TreeFail })
	if fail >= 0 {
		c.Whole = false
		for i := 0; len(l) > 0 && i < len(l[0]); i++ {
			c.Missing = append(c.Missing, p.stands(ways[fail], []int{i}))
		}
	}
	return c
}

// stands tells the pattern at a path of a way.
func (p *plain) stands(w plainWay, path []int) api.Pat {
	x, ok := w.at[fmt.Sprint(path)]
	if !ok {
		return wild
	}
	if x.Kind == api.PatCon {
		for f := range p.fields(x.Name) {
			x.Args = append(x.Args, p.stands(w, append(slices.Clone(path), f)))
		}
	}
	return x
}
