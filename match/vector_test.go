package match_test

import (
	"fmt"
	"slices"
	"testing"

	"sloth/api"
)

// P7.2 and P7.3: what trees and coverages say of values.

// value is a number, or (con not "") a constructor with its fields.
type value struct {
	con    string
	num    int
	fields []value
}

func fits(p api.Pat, v value) bool {
	switch p.Kind {
	case api.PatInt:
		return v.con == "" && v.num == p.Num
	case api.PatCon:
		return v.con == p.Name && slices.EqualFunc(p.Args, v.fields, fits)
	}
	return true
}

// rowOf tells the first row that fits a vector; -1: there is none.
func rowOf(l [][]api.Pat, vector []value) int {
	return slices.IndexFunc(l, func(row []api.Pat) bool { return slices.EqualFunc(row, vector, fits) })
}

// walker goes down a tree by a vector.
type walker struct {
	vector []value
	looked map[string]int // the paths that the way has looked at: how many fields what it saw there has
}

// leaf tells the row to which the way comes, -1 for a TreeFail; and what is wrong with the way, if something is.
func (w walker) leaf(t api.Tree) (int, error) {
	switch t.Kind {
	case api.TreeFail:
		return -1, nil
	case api.TreeRow:
		return t.Row, nil
	case api.TreeSwitch:
	default:
		return 0, fmt.Errorf("a node of kind %d", t.Kind)
	}
	v, err := w.look(t.Path)
	if err != nil {
		return 0, err
	}
	for _, c := range t.Cases {
		if c.Con == v.con && c.Num == v.num {
			w.looked[fmt.Sprint(t.Path)] = len(v.fields)
			return w.leaf(c.Then)
		}
	}
	w.looked[fmt.Sprint(t.Path)] = 0
	if len(t.Else) != 1 {
		return 0, fmt.Errorf("no Case and %d Else for %v at %v", len(t.Else), v, t.Path)
	}
	return w.leaf(t.Else[0])
}

// look tells the value at a path, which must lie within what the way has seen, and be new.
func (w walker) look(path []int) (value, error) {
	if _, ok := w.looked[fmt.Sprint(path)]; ok {
		return value{}, fmt.Errorf("the path %v is looked at twice", path)
	}
	here := value{fields: w.vector}
	for i, n := range path {
		if seen := w.looked[fmt.Sprint(path[:i])]; i > 0 && n >= seen || n < 0 || n >= len(here.fields) {
			return value{}, fmt.Errorf("the path %v lies within nothing that was seen", path)
		}
		here = here.fields[n]
	}
	return here, nil
}

// any is a value of a shape. So deep that all patterns are wild there it is a number.
func (k *maker) any(s *shape, levels int) value {
	if s.family < 0 || levels == 0 {
		return value{num: pick(k.Rand, k.Intn(4), pick(k.Rand, edges...), 1000)}
	}
	f := k.fams[s.family]
	at := k.Intn(len(f.Cons))
	v := value{con: f.Cons[at]}
	for _, inner := range k.within(s, at) {
		v.fields = append(v.fields, k.any(inner, levels-1))
	}
	return v
}

// TestVectors: P7.2: every vector comes to its row; on no way is a path looked at twice, nor one that lies in nothing that was seen.
func TestVectors(t *testing.T) {
	t.Parallel()
	rowed, failed := 0, 0
	many(t, 3, 20000, func(k *maker) {
		x := k.taken(t)
		for range 20 {
			var vector []value
			for _, s := range x.shapes {
				vector = append(vector, k.any(s, k.deep))
			}
			row := x.checkVector(t, vector)
			if row < 0 && x.cover.Whole || slices.Contains(x.cover.Idle, row) {
				t.Fatalf("Compile(%s): the row of %v is %d: %s", toldRows(x.rows), vector, row, toldCover(x.cover))
			}
			if row < 0 {
				failed++
			} else {
				rowed++
			}
		}
	})
	if rowed < 100000 || failed < 100000 {
		t.Error("too few vectors with a row, or without:", rowed, failed)
	}
}

// checkVector: a vector comes to its row, which is told.
func (x taken) checkVector(t *testing.T, vector []value) int {
	t.Helper()
	row := rowOf(x.rows, vector)
	got, err := walker{vector, map[string]int{}}.leaf(x.tree)
	if err != nil || got != row {
		t.Fatalf("Compile(%s): %v comes to %d, %v, want %d", toldRows(x.rows), vector, got, err, row)
	}
	return row
}

// sorts makes values of which one stands for each value that there may be: those that patterns tell apart.
type sorts struct{ fams []api.Family }

// values tells them for a column.
func (s sorts) values(column []api.Pat) []value {
	var l []value
	for _, p := range column {
		switch p.Kind {
		case api.PatCon:
			return s.cons(column, p.Name)
		case api.PatInt:
			if !slices.ContainsFunc(l, func(v value) bool { return v.num == p.Num }) {
				l = append(l, value{num: p.Num})
			}
		}
	}
	other := 0
	for slices.ContainsFunc(l, func(v value) bool { return v.num == other }) {
		other++
	}
	return append(l, value{num: other})
}

// cons tells them for a column in which constructors of some one's family stand.
func (s sorts) cons(column []api.Pat, one string) []value {
	f := s.fams[slices.IndexFunc(s.fams, func(f api.Family) bool { return slices.Contains(f.Cons, one) })]
	var l []value
	for i, c := range f.Cons {
		var inner [][]api.Pat
		for _, p := range column {
			if p.Kind == api.PatCon && p.Name == c {
				inner = append(inner, p.Args)
			}
		}
		for _, fields := range s.vectors(inner, f.Fields[i]) {
			l = append(l, value{con: c, fields: fields})
		}
	}
	return l
}

// tooMany is how many vectors are no longer all made.
const tooMany = 1000

// vectors tells as many vectors as are needed; tooMany or more, if these are not all.
func (s sorts) vectors(l [][]api.Pat, width int) [][]value {
	all := [][]value{nil}
	for c := range width {
		var column []api.Pat
		for _, row := range l {
			column = append(column, row[c])
		}
		values := s.values(column)
		if len(values)*len(all) >= tooMany {
			return make([][]value, tooMany)
		}
		var longer [][]value
		for _, v := range all {
			for _, x := range values {
				longer = append(longer, append(slices.Clone(v), x))
			}
		}
		all = longer
	}
	return all
}

// TestAllVectors: P7.2 and P7.3: of all vectors that patterns tell apart: each comes to its row; idle are just the rows of none; whole is what leaves none out; what is missing has no row.
func TestAllVectors(t *testing.T) {
	t.Parallel()
	looked, whole, idle, missing := 0, 0, 0, 0
	many(t, 4, 20000, func(k *maker) {
		x := k.taken(t)
		all := sorts{k.fams}.vectors(x.rows, len(x.shapes))
		if len(all) >= tooMany {
			return
		}
		x.checkCover(t, all)
		looked++
		idle += len(x.cover.Idle)
		if x.cover.Whole {
			whole++
		} else {
			missing++
		}
	})
	if looked < 10000 || whole < 1000 || idle < 1000 || missing < 1000 {
		t.Error("too few are met:", looked, whole, idle, missing)
	}
}

// checkCover: the coverage says what all vectors say.
func (x taken) checkCover(t *testing.T, all [][]value) {
	t.Helper()
	met := map[int]bool{}
	for _, v := range all {
		row := x.checkVector(t, v)
		met[row] = true
		if row >= 0 && !x.cover.Whole && slices.EqualFunc(x.cover.Missing, v, fits) {
			t.Fatalf("Compile(%s): %s, but %v has the row %d", toldRows(x.rows), toldCover(x.cover), v, row)
		}
	}
	want := api.Coverage{Whole: !met[-1], Missing: x.cover.Missing}
	for i := range x.rows {
		if !met[i] {
			want.Idle = append(want.Idle, i)
		}
	}
	width := len(x.shapes)
	if want.Whole {
		width = 0
	}
	if !sameCover(x.cover, want) || len(x.cover.Missing) != width {
		t.Fatalf("Compile(%s): %s, want %s", toldRows(x.rows), toldCover(x.cover), toldCover(want))
	}
}

// TestMissingStands: P7.3: there is a value for what is missing; it has no row, whatever stands where it says nothing.
func TestMissingStands(t *testing.T) {
	t.Parallel()
	looked := 0
	many(t, 5, 20000, func(k *maker) {
		x := k.taken(t)
		if x.cover.Whole {
			return
		}
		looked++
		for range 10 {
			var vector []value
			for i, p := range x.cover.Missing {
				vector = append(vector, k.like(p, x.shapes[i]))
			}
			if row := x.checkVector(t, vector); row >= 0 || !slices.EqualFunc(x.cover.Missing, vector, fits) {
				t.Fatalf("Compile(%s): %s, but %v has the row %d", toldRows(x.rows), toldCover(x.cover), vector, row)
			}
		}
	})
	if looked < 5000 {
		t.Error("too few are met:", looked)
	}
}

// like is a value of a shape that a pattern fits.
func (k *maker) like(p api.Pat, s *shape) value {
	switch p.Kind {
	case api.PatInt:
		return value{num: p.Num}
	case api.PatCon:
		v := value{con: p.Name}
		inner := k.within(s, slices.Index(k.fams[s.family].Cons, p.Name))
		for i, a := range p.Args {
			v.fields = append(v.fields, k.like(a, inner[i]))
		}
		return v
	}
	return k.any(s, k.deep)
}
