package match_test

import (
	"fmt"
	"testing"
	"time"

	"sloth/api"
	"sloth/match"
)

// checkPlain: Compile answers as its second form does.
func checkPlain(t *testing.T, fams []api.Family, l [][]api.Pat) api.Errno {
	t.Helper()
	tree, cover, code := match.Compile(fams, l)
	wantTree, wantCover, want := plainCompile(fams, l)
	if code != want || !sameTree(tree, wantTree) || !sameCover(cover, wantCover) {
		t.Errorf("Compile(%v, %s): %s\n%s, %v\nwant %s\n%s, %v", fams, toldRows(l), short(toldTree(tree)), toldCover(cover), code, short(toldTree(wantTree)), toldCover(wantCover), want)
	}
	return code
}

func checkMet(t *testing.T, met map[api.Errno]int, least int, codes ...api.Errno) {
	t.Helper()
	t.Log(met)
	for _, code := range codes {
		if met[code] < least {
			t.Errorf("%v is met %d times", code, met[code])
		}
	}
}

// TestPlain: P7.1: right inputs, and inputs with which something is wrong.
func TestPlain(t *testing.T) {
	t.Parallel()
	met := map[api.Errno]int{}
	many(t, 1, 60000, func(k *maker) {
		l, _ := k.rows()
		for range k.Intn(3) {
			k.spoilRows(l)
		}
		if k.Intn(10) == 0 {
			k.spoilFamilies()
		}
		met[checkPlain(t, k.fams, l)]++
	})
	checkMet(t, met, 1000, api.OK, api.ErrMatchTable, api.ErrMatchRow)
	checkMet(t, met, 100, api.ErrLong)
}

// TestPlainBroad: P7.1: many rows and columns, whose trees are great, or too great.
func TestPlainBroad(t *testing.T) {
	t.Parallel()
	met := map[api.Errno]int{}
	many(t, 2, 600, func(k *maker) {
		met[checkPlain(t, k.fams, k.broad())]++
	})
	checkMet(t, met, 100, api.OK, api.ErrBig)
}

// taken are right rows with what Compile answers.
type taken struct {
	rows   [][]api.Pat
	shapes []*shape
	tree   api.Tree
	cover  api.Coverage
}

// taken makes right rows, one or more, whose tree is not too great.
func (k *maker) taken(t *testing.T) taken {
	t.Helper()
	for {
		l, shapes := k.rows()
		tree, cover, code := match.Compile(k.fams, l)
		if code == api.OK && len(l) > 0 {
			return taken{l, shapes, tree, cover}
		}
		if code != api.OK && code != api.ErrBig {
			t.Fatalf("Compile(%v, %s): %v", k.fams, toldRows(l), code)
		}
	}
}

// otherWild is the pattern with other wild patterns in it, and with something in the fields that its kind does not have.
func (k *maker) otherWild(p api.Pat) api.Pat {
	garbage := chain(k.Intn(3), pick(k.Rand, "A", "nobody", ""), api.Pat{Kind: k.Intn(7) - 1, Num: -1 << 63})
	names := []string{"", "z", "Nil", "A", "x", "\x80", "0"}
	out := api.Pat{Kind: p.Kind, Name: p.Name, Num: p.Num}
	switch p.Kind {
	case api.PatInt:
		out.Name, out.Args = pick(k.Rand, names...), times(k.Intn(3), garbage)
	case api.PatCon:
		out.Num = pick(k.Rand, 0, 5, 1<<63-1)
		for _, a := range p.Args {
			out.Args = append(out.Args, k.otherWild(a))
		}
	default:
		out = api.Pat{Kind: pick(k.Rand, api.PatWild, api.PatVar), Name: pick(k.Rand, names...), Num: pick(k.Rand, 0, 1, api.MinInt-1), Args: times(k.Intn(3), garbage)}
	}
	return out
}

// TestNames: P7.4: the tree is the same with other variables, with PatVar for PatWild and the other way; what a kind does not have is not looked at; other families change nothing.
func TestNames(t *testing.T) {
	t.Parallel()
	many(t, 6, 20000, func(k *maker) {
		x := k.taken(t)
		var other [][]api.Pat
		for _, row := range x.rows {
			var made []api.Pat
			for _, p := range row {
				made = append(made, k.otherWild(p))
			}
			other = append(other, made)
		}
		k.fams = append(k.fams, api.Family{Cons: []string{"no", "pattern's"}, Fields: []int{2, 0}})
		k.Shuffle(len(k.fams), func(i, j int) { k.fams[i], k.fams[j] = k.fams[j], k.fams[i] })
		tree, cover := checkTaken(t, "with other names", k.fams, other)
		if !sameTree(tree, x.tree) || !sameCover(cover, x.cover) {
			t.Fatalf("Compile(%s): %s\n%s\nbut of %v %s\n%s", toldRows(x.rows), toldTree(x.tree), toldCover(x.cover), other, toldTree(tree), toldCover(cover))
		}
	})
}

// rooms notes the places of all room that lists have, and tells of one that two lists have.
type rooms struct {
	*testing.T
	places map[any]bool
}

func room[T any](r rooms, l []T) {
	for i := range cap(l) {
		at := &l[:cap(l)][i]
		if r.places[at] {
			r.Error("two lists share memory")
		}
		r.places[at] = true
	}
}

func (r rooms) pats(l []api.Pat) {
	room(r, l)
	for _, p := range l {
		r.pats(p.Args)
	}
}

func (r rooms) tree(t api.Tree) {
	room(r, t.Path)
	room(r, t.Cases)
	room(r, t.Else)
	for _, c := range t.Cases {
		r.tree(c.Then)
	}
	for _, e := range t.Else {
		r.tree(e)
	}
}

func (r rooms) cover(c api.Coverage) {
	room(r, c.Idle)
	r.pats(c.Missing)
}

// roomy copies patterns, with something in the spare room of their lists.
func roomy(l []api.Pat) []api.Pat {
	out := make([]api.Pat, 0, len(l)+1)
	for _, p := range l {
		p.Args = roomy(p.Args)
		out = append(out, p)
	}
	return append(out, con("Spare"))[:len(out)]
}

// spared tells patterns with what stands in the spare room of their lists.
func spared(l []api.Pat) string {
	s := "["
	for _, p := range l[:cap(l)] {
		s += fmt.Sprint(p.Kind, p.Name, p.Num, spared(p.Args), " ")
	}
	return s + "]"
}

// TestMemory: W2 and W6: what is handed in stays, its spare room too; no two lists of what is handed in and of what is answered, twice, share any room; both answers are the same.
func TestMemory(t *testing.T) {
	t.Parallel()
	many(t, 7, 4000, func(k *maker) {
		made, _ := k.rows()
		if k.Intn(10) == 0 {
			k.spoilRows(made)
		}
		l := make([][]api.Pat, 0, len(made)+1)
		for _, row := range made {
			l = append(l, roomy(row))
		}
		l = append(l, []api.Pat{con("Spare")})[:len(l)]
		in := func() string {
			s := fmt.Sprint(k.fams)
			for _, row := range l[:cap(l)] {
				s += spared(row)
			}
			return s
		}
		before := in()
		r := rooms{t, map[any]bool{}}
		room(r, l)
		for _, row := range l {
			r.pats(row)
		}
		for _, f := range k.fams {
			room(r, f.Cons)
			room(r, f.Fields)
		}
		tree, cover, code := match.Compile(k.fams, l)
		r.tree(tree)
		r.cover(cover)
		otherTree, otherCover, otherCode := match.Compile(k.fams, l)
		r.tree(otherTree)
		r.cover(otherCover)
		if !sameTree(tree, otherTree) || !sameCover(cover, otherCover) || code != otherCode {
			t.Errorf("Compile(%s) answers otherwise the second time", toldRows(l))
		}
		if before != in() {
			t.Errorf("%s has become %s", before, in())
		}
	})
}

// TestAtOneTime: W2: calls that go on at one time, of the same rows, answer the same.
func TestAtOneTime(t *testing.T) {
	t.Parallel()
	many(t, 8, 200, func(k *maker) {
		l, _ := k.rows()
		want, _, _ := match.Compile(k.fams, l)
		trees := make(chan api.Tree)
		for range 8 {
			go func() {
				tree, _, _ := match.Compile(k.fams, l)
				trees <- tree
			}()
		}
		for range 8 {
			if tree := <-trees; !sameTree(tree, want) {
				t.Errorf("Compile(%s): %s, want %s", toldRows(l), toldTree(tree), toldTree(want))
			}
		}
	})
}

func soon(t *testing.T, what string, do func()) {
	t.Helper()
	done := make(chan struct{})
	go func() {
		defer close(done)
		do()
	}()
	select {
	case <-done:
	case <-time.After(time.Minute):
		t.Fatal("too long:", what)
	}
}
