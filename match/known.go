package match

import (
	"cmp"
	"slices"

	"sloth/api"
)

// constructor tells where a name stands among the families, and how many fields it has.
type constructor struct{ family, place, fields int }

// known is what the families say.
type known struct {
	families []api.Family
	cons     map[string]constructor
}

// knownOf learns families, and tells whether they are right.
func knownOf(families []api.Family) (known, bool) {
	k := known{families: families, cons: map[string]constructor{}}
	for i, f := range families {
		if len(f.Cons) == 0 || len(f.Cons) > api.MaxCons || len(f.Fields) != len(f.Cons) {
			return known{}, false
		}
		for place, name := range f.Cons {
			_, twice := k.cons[name]
			fields := f.Fields[place]
			if name == "" || twice || fields < 0 || fields > api.MaxFields {
				return known{}, false
			}
			k.cons[name] = constructor{family: i, place: place, fields: fields}
		}
	}
	return k, true
}

func (k known) familyOf(con string) api.Family {
	return k.families[k.cons[con].family]
}

// rightColumns tells the columns of rows, and whether the rows are right.
func (k known) rightColumns(rows [][]api.Pat) ([]*column, bool) {
	if len(rows) == 0 {
		return nil, true
	}
	width := len(rows[0])
	lines := make([]line, len(rows))
	for i, pats := range rows {
		if len(pats) != width {
			return nil, false
		}
		lines[i] = line{row: i, pats: pats}
	}
	columns := columnsOf(nil, width, lines)
	return columns, k.areRight(columns)
}

// areRight looks at columns, and at all that lie within them. It keeps those that wait in a list, since they may lie deep.
func (k known) areRight(columns []*column) bool {
	for rest := slices.Clone(columns); len(rest) > 0; {
		last := len(rest) - 1
		spots := rest[last].spots
		rest = rest[:last]
		if !k.goTogether(spots) {
			return false
		}
		for _, c := range k.cases(spots) {
			met, _ := split(spots, c)
			rest = append(rest, k.within(met, c.Con, nil)...)
		}
	}
	return true
}

// goTogether looks at the patterns of a column, whatever stands within them.
func (k known) goTogether(spots []spot) bool {
	first := spots[0].pat
	for _, s := range spots {
		if s.pat.Kind != first.Kind || !k.mayBe(s.pat) {
			return false
		}
		if first.Kind == api.PatCon && k.cons[s.pat.Name].family != k.cons[first.Name].family {
			return false
		}
	}
	return true
}

// mayBe looks at a pattern that is not wild, whatever stands within it.
func (k known) mayBe(p *api.Pat) bool {
	switch p.Kind {
	case api.PatInt:
		return api.MinInt <= p.Num && p.Num <= api.MaxInt
	case api.PatCon:
		c, ok := k.cons[p.Name]
		return ok && len(p.Args) == c.fields
	}
	return false
}

// cases tells the Cases of a switch, as yet without their trees.
func (k known) cases(spots []spot) []api.Case {
	l := make([]api.Case, len(spots))
	for i, s := range spots {
		if s.pat.Kind == api.PatCon {
			l[i].Con = s.pat.Name
		} else {
			l[i].Num = s.pat.Num
		}
	}
	slices.SortFunc(l, func(a, b api.Case) int {
		return cmp.Or(cmp.Compare(k.cons[a.Con].place, k.cons[b.Con].place), cmp.Compare(a.Num, b.Num))
	})
	return slices.CompactFunc(l, func(a, b api.Case) bool { return a.Con == b.Con && a.Num == b.Num })
}

// isFull tells whether all values that may stand there have a Case.
func (k known) isFull(cases []api.Case) bool {
	return cases[0].Con != "" && len(cases) == len(k.familyOf(cases[0].Con).Cons)
}

// within makes columns of the fields of a constructor, of which all of the spots are. (Numbers have none.)
func (k known) within(spots []spot, con string, path []int) []*column {
	lines := make([]line, len(spots))
	for i, s := range spots {
		lines[i] = line{row: s.row, pats: s.pat.Args}
	}
	return columnsOf(path, k.cons[con].fields, lines)
}
