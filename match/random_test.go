package match_test

import (
	"fmt"
	"math/rand"
	"slices"
	"testing"

	"sloth/api"
)

// maker makes families and rows at random.
type maker struct {
	*rand.Rand
	fams  []api.Family
	dense int // of so many patterns one is wild
	deep  int // how many levels patterns have at most
}

func pick[T any](r *rand.Rand, l ...T) T { return l[r.Intn(len(l))] }

// many hands on makers, till something fails.
func many(t *testing.T, seed int64, times int, do func(*maker)) {
	t.Helper()
	r := rand.New(rand.NewSource(seed))
	for range times {
		k := &maker{Rand: r, dense: 1 + r.Intn(5), deep: 1 + r.Intn(4)}
		k.families()
		do(k)
		if t.Failed() {
			return
		}
	}
}

func (k *maker) families() {
	names := []string{"Nil", "Cons", "A", "B", "C", ":", "()", "_", "x", "1", "\x00", "\x80", "Ä", " ", "M.T", "A ", "a", "D", "E", "F"}
	k.Shuffle(len(names), func(i, j int) { names[i], names[j] = names[j], names[i] })
	for range 1 + k.Intn(4) {
		var f api.Family
		for range 1 + k.Intn(5) {
			f.Cons, f.Fields = append(f.Cons, names[0]), append(f.Fields, pick(k.Rand, 0, 0, 0, 1, 1, 2, 3))
			names = names[1:]
		}
		k.fams = append(k.fams, f)
	}
	if k.Intn(20) == 0 {
		var f api.Family
		for i := range api.MaxCons {
			f.Cons, f.Fields = append(f.Cons, fmt.Sprint("Many", i)), append(f.Fields, k.Intn(2)*k.Intn(2)*k.Intn(1+api.MaxFields))
		}
		k.fams = append(k.fams, f)
	}
}

// shape is what may stand at a place: numbers (family -1), or constructors of a family; of each of these, what may stand in its fields.
type shape struct {
	family int
	fields map[string][]*shape
}

func (k *maker) shape() *shape {
	return &shape{k.Intn(len(k.fams)+1) - 1, map[string][]*shape{}}
}

// within tells the shapes of a constructor's fields, which are made when they are asked for.
func (k *maker) within(s *shape, at int) []*shape {
	f := k.fams[s.family]
	name := f.Cons[at]
	for len(s.fields[name]) < f.Fields[at] {
		s.fields[name] = append(s.fields[name], k.shape())
	}
	return s.fields[name]
}

var edges = []int{api.MinInt, api.MinInt + 1, -1, 0, 1, 2, 3, api.MaxInt - 1, api.MaxInt}

func (k *maker) pat(s *shape, levels int) api.Pat {
	if levels == 0 || k.Intn(k.dense+1) == 0 {
		return pick(k.Rand, wild, wild, variable("x"), variable("y"))
	}
	if s.family < 0 {
		return num(pick(k.Rand, k.Intn(3), k.Intn(3), pick(k.Rand, edges...)))
	}
	at := k.Intn(len(k.fams[s.family].Cons))
	p := con(k.fams[s.family].Cons[at])
	for _, inner := range k.within(s, at) {
		p.Args = append(p.Args, k.pat(inner, levels-1))
	}
	return p
}

// rows makes right rows, and tells the shapes of their columns.
func (k *maker) rows() ([][]api.Pat, []*shape) {
	var shapes []*shape
	for range pick(k.Rand, 0, 1, 1, 1, 2, 2, 2, 3, 4, 5) {
		shapes = append(shapes, k.shape())
	}
	var l [][]api.Pat
	for range pick(k.Rand, 0, 1, 2, 3, 4, 5, 6, 8, 12) {
		var row []api.Pat
		for _, s := range shapes {
			row = append(row, k.pat(s, k.deep))
		}
		l = append(l, row)
	}
	return l, shapes
}

// somewhere is a place in rows, and nil if there is none.
func (k *maker) somewhere(l [][]api.Pat) *api.Pat {
	if len(l) == 0 {
		return nil
	}
	row := l[k.Intn(len(l))]
	if len(row) == 0 {
		return nil
	}
	p := &row[k.Intn(len(row))]
	for p.Kind == api.PatCon && len(p.Args) > 0 && k.Intn(3) > 0 {
		p = &p.Args[k.Intn(len(p.Args))]
	}
	return p
}

// spoilRows makes one thing in rows another; most often they are right no longer.
func (k *maker) spoilRows(l [][]api.Pat) {
	p := k.somewhere(l)
	if p == nil {
		return
	}
	switch k.Intn(9) {
	case 0:
		p.Kind = pick(k.Rand, 0, -1, 5, api.PatWild, api.PatVar, api.PatInt, api.PatCon)
	case 1:
		p.Name = pick(k.Rand, "", "Nil", "nobody", "A", "Cons")
	case 2:
		p.Num = pick(k.Rand, api.MinInt-1, api.MaxInt+1, -1<<63, 1<<63-1, api.MinInt)
	case 3:
		p.Args = append(p.Args, wild)
	case 4:
		p.Args = p.Args[:len(p.Args)/2]
	case 5:
		*p = num(pick(k.Rand, 0, api.MinInt-1, api.MaxInt+1))
	case 6:
		*p = k.pat(k.shape(), 2)
	case 7:
		*p = con("nobody")
	case 8:
		i := k.Intn(len(l))
		l[i] = pick(k.Rand, l[i][1:], append(slices.Clone(l[i]), wild), times(api.MaxColumns, wild), times(api.MaxColumns+1, wild))
	}
}

// spoilFamilies makes one thing in families another.
func (k *maker) spoilFamilies() {
	f := &k.fams[k.Intn(len(k.fams))]
	at := k.Intn(len(f.Cons))
	switch k.Intn(5) {
	case 0:
		f.Cons[at] = pick(k.Rand, "", "Nil", "A", f.Cons[0], "new")
	case 1:
		f.Fields[at] = pick(k.Rand, -1, api.MaxFields+1, f.Fields[at]+1, -1<<63, 1<<63-1)
	case 2:
		f.Cons = f.Cons[:len(f.Cons)-1]
	case 3:
		f.Fields = append(f.Fields, 0)
	case 4:
		f.Cons, f.Fields = append(f.Cons, "one more"), append(f.Fields, 0)
	}
}

// broad makes rows whose trees are great.
func (k *maker) broad() [][]api.Pat {
	k.dense = pick(k.Rand, 0, 1, 1, 2)
	var shapes []*shape
	for range 3 + k.Intn(api.MaxColumns-2) {
		shapes = append(shapes, k.shape())
	}
	var l [][]api.Pat
	for range 5 + k.Intn(pick(k.Rand, 10, 25, api.MaxRows-5)) {
		var row []api.Pat
		for _, s := range shapes {
			row = append(row, k.pat(s, k.deep))
		}
		l = append(l, row)
	}
	return l
}
