package peep_test

import (
	"fmt"
	"math"
	"reflect"
	"slices"
	"sync"
	"testing"

	"sloth/api"
	"sloth/code"
	"sloth/peep"
)

// fault makes a right table wrong in one way.
type fault struct {
	what string
	do   func(x *api.Table)
	want api.Errno
}

// base has two globals more than one, all of which are right, and become shorter.
func base() api.Table {
	x := one(1, nil)
	x.Globals = nil
	for _, name := range []string{"f", "g", "h"} {
		x.Globals = append(x.Globals, api.Global{Name: name, Arity: 1, Code: []api.Instr{in(api.OpPush), in(api.OpEval), in(api.OpTestInt, 1, 4), in(api.OpJump, 4), in(api.OpPop, 2), in(api.OpUnwind)}})
	}
	return x
}

// faultsInOrder are faults of a table, each of which is told ahead of all behind it.
func faultsInOrder() []fault {
	l := []fault{
		{"too many instructions", func(x *api.Table) { x.Globals[2].Code = make([]api.Instr, api.MaxCode+1) }, api.ErrBig},
		{"a shape's fields", func(x *api.Table) { x.Shapes[7].Fields = 9 }, api.ErrCodeName},
		{"the seven", func(x *api.Table) { x.Shapes[0].Name = "No" }, api.ErrCodeName},
		{"an Arity", func(x *api.Table) { x.Globals[2].Arity = 25 }, api.ErrCodeName},
		{"a global's name", func(x *api.Table) { x.Globals[1].Name = "f" }, api.ErrCodeName},
	}
	for g := range 3 {
		for i, y := range []struct {
			x    api.Instr
			want api.Errno
		}{{in(api.OpJump, 0), api.ErrCodeFlow}, {in(0), api.ErrCodeName}, {in(api.OpSlide, 2), api.ErrCodeStack}, {in(api.OpJump, 6), api.ErrCodeFlow}, {in(api.OpPop, -1), api.ErrCodeName}, {in(api.OpEval), api.ErrCodeStack}} {
			what := fmt.Sprint("global ", g, " at ", i)
			if i != 2 { // a depth is told behind all numbers
				l = append(l, fault{what, func(x *api.Table) { x.Globals[g].Code[i] = y.x }, y.want})
			}
		}
	}
	return l
}

// TestRefused: P19.1, W3, W8: what code.Check says, with nothing beside it; of two faults that which it says first.
func TestRefused(t *testing.T) {
	checkError(t, "the base", base(), api.OK)
	checkError(t, "no table", api.Table{}, api.ErrCodeName)
	l := faultsInOrder()
	for i, a := range l {
		x := base()
		a.do(&x)
		checkError(t, a.what, x, a.want)
		for _, b := range l[i+1:] {
			y := base()
			if a.want == api.ErrBig {
				b.do(&y)
				a.do(&y)
			} else {
				a.do(&y)
				b.do(&y)
			}
			checkError(t, a.what+"; "+b.what, y, a.want)
		}
	}
}

// TestRefusedCodes: P19.1: what no rule may mend: codes that would be right behind it.
func TestRefusedCodes(t *testing.T) {
	for _, x := range []struct {
		arity int
		code  string
		want  api.Errno
	}{
		{0, "jump 2 fail 1 fail 2", api.ErrCodeFlow},                       // no way leads to a place: rule 1
		{0, "fail 1 jump 3 jump 2 fail 1", api.ErrCodeFlow},                // nor to jumps, in a ring
		{0, "fail 1 jump 1", api.ErrCodeFlow},                              // a jump to itself
		{0, "jump 1 jump 0", api.ErrCodeFlow},                              // a ring that a way leads to
		{1, "testint 1 0 fail 1", api.ErrCodeFlow},                         // back
		{1, "testint 1 2 pop 0", api.ErrCodeFlow},                          // behind the end
		{0, "pop 0", api.ErrCodeFlow},                                      // rule 2 at the end
		{0, "jump 1", api.ErrCodeFlow},                                     // rule 3 at the end
		{0, "pop 0 pop 0 fail 1 fail 1", api.ErrCodeFlow},                  // what no way leads to is told, though rule 1 would take it away
		{0, "push 0 pop 3 fail 1", api.ErrCodeStack},                       // rule 8
		{0, "pop 0 eval fail 1", api.ErrCodeStack},                         // rule 2 ahead of it
		{0, "slide 0 fail 1", api.ErrCodeStack},                            // of the root alone
		{1, "push 0 testint 1 3 pop 1 fail 1", api.ErrCodeStack},           // another depth by another way
		{0, "int 1 testint 2 4 pop 9 fail 1 fail 1", api.ErrCodeStack},     // what rule 12 would leave out
		{0, "int 1 testint 1 3 fail 1 pop 9 fail 1", api.ErrCodeStack},     // what rule 11 would leave out
		{0, `int 1 testcon "Nil" 3 fail 1 jump 3 fail 1`, api.ErrCodeFlow}, // a jump to its own place
	} {
		checkError(t, x.code, one(x.arity, instrs(t, x.code)), x.want)
	}
	for _, x := range []api.Instr{in(18), in(-1), in(api.OpPop, -1), in(api.OpPop, 0, 1), in(api.OpEval, 1), in(api.OpInt, api.MaxInt+1), in(api.OpInt, api.MinInt-1), in(api.OpPack, 8), in(api.OpGlobal, 1), in(api.OpAlloc, -1), in(api.OpJump, 1, 1), in(api.OpJump, math.MinInt), in(api.OpArith, 12), in(api.OpTestCon, 8, 1), in(api.OpUpdate), in(api.OpFail, 5)} {
		want := api.ErrCodeName
		if x.Op == api.OpJump && x.B == 0 {
			want = api.ErrCodeFlow
		}
		checkError(t, fmt.Sprint(x), one(1, []api.Instr{x, in(api.OpFail, 1)}), want)
	}
}

// TestRefusedRandom: P19.1: of tables in which something is spoilt, what code.Check says.
func TestRefusedRandom(t *testing.T) {
	met := map[api.Errno]int{}
	numbers := []int{0, 1, -1, 2, 3, 4, 5, 6, 7, 8, 9, 17, 18, api.MaxInt, math.MaxInt, math.MinInt}
	many(t, 2, 1500, func(m *maker) {
		g := &m.table.Globals[m.Intn(len(m.table.Globals))]
		x := &g.Code[m.Intn(len(g.Code))]
		switch n := pick(m.Rand, numbers...); m.Intn(5) {
		case 0:
			x.Op = n
		case 1:
			x.A = n
		case 2:
			x.B = n
		case 3:
			g.Arity = n
		case 4:
			i := m.Intn(len(g.Code))
			g.Code = slices.Delete(g.Code, i, i+1)
		}
		want := code.Check(m.table)
		met[want]++
		if want == api.OK {
			checkPlain(t, m.table)
		} else {
			checkError(t, fmt.Sprint(m.table), m.table, want)
		}
	})
	for _, e := range []api.Errno{api.OK, api.ErrCodeName, api.ErrCodeStack, api.ErrCodeFlow} {
		if met[e] < 50 {
			t.Error("too seldom:", e, met[e])
		}
	}
}

// room is where a list lies, with its spare room.
type room struct{ from, to uintptr }

func roomOf[T any](l []T) room {
	v := reflect.ValueOf(l)
	return room{v.Pointer(), v.Pointer() + uintptr(v.Cap())*v.Type().Elem().Size()}
}

// rooms tells where all lists of a table lie.
func rooms(x api.Table) []room {
	l := []room{roomOf(x.Shapes), roomOf(x.Globals)}
	for _, g := range x.Globals {
		l = append(l, roomOf(g.Code))
	}
	return slices.DeleteFunc(l, func(r room) bool { return r.from == r.to })
}

func overlap(l []room) bool {
	for i, a := range l {
		for _, b := range l[:i] {
			if a.from < b.to && b.from < a.to {
				return true
			}
		}
	}
	return false
}

// roomy is a table in memory of its own, with spare room in which something stands.
func roomy(x api.Table) api.Table {
	y := api.Table{Shapes: append(slices.Clone(x.Shapes), api.Shape{Name: "spare"})[:len(x.Shapes)], Globals: append(slices.Clone(x.Globals), api.Global{Name: "spare"})[:len(x.Globals)]}
	for i := range y.Globals {
		l := x.Globals[i].Code
		y.Globals[i].Code = append(slices.Clone(l), api.Instr{Op: 99}, api.Instr{Op: 98})[:len(l)]
	}
	return y
}

// whole writes a table with the spare room that roomy gave it.
func whole(x api.Table) string {
	s := fmt.Sprint(x.Shapes[:len(x.Shapes)+1], x.Globals[:len(x.Globals)+1])
	for _, g := range x.Globals {
		s += fmt.Sprint(g.Code[:len(g.Code)+2])
	}
	return s
}

// spoil changes all that lies in a table's lists, spare room too.
func spoil(x api.Table) {
	for _, g := range x.Globals {
		clear(g.Code[:cap(g.Code)])
	}
	clear(x.Globals[:cap(x.Globals)])
	clear(x.Shapes[:cap(x.Shapes)])
}

// checkMemory: W2, W6: what is handed in stays as it is, spare room too; what comes out is new memory, of which no two lists share any; asked again, behind all that was written over, it is the same.
func checkMemory(t *testing.T, x api.Table) {
	t.Helper()
	in := roomy(x)
	ahead := whole(in)
	out := peeped(t, in)
	again := peeped(t, in)
	if whole(in) != ahead {
		t.Fatalf("what was handed in has changed: %s", shown(x))
	}
	if overlap(slices.Concat(rooms(in), rooms(out), rooms(again))) {
		t.Fatalf("lists share memory: %s", shown(x))
	}
	want := shown(out)
	spoil(in)
	spoil(again)
	if shown(out) != want {
		t.Fatalf("an answer has changed: %s", shown(x))
	}
	spoil(out)
	if got := shown(peeped(t, x)); got != want {
		t.Fatalf("what was answered once is kept: %s, want %s", got, want)
	}
}

// TestMemory: P19.1: of tables in which all, some and nothing becomes shorter, and of such as were refused.
func TestMemory(t *testing.T) {
	many(t, 3, 200, func(m *maker) { checkMemory(t, m.table) })
	checkMemory(t, base())
	checkMemory(t, one(0, instrs(t, "int 1 update 1 unwind")))
	checkMemory(t, one(0, instrs(t, "push 0 pop 1 int 1 update 1 unwind")))
	for _, f := range faultsInOrder() {
		x := base()
		f.do(&x)
		y := roomy(x)
		ahead := whole(y)
		if _, e := peep.Peep(y); e != f.want || whole(y) != ahead {
			t.Error(f.what, e)
		}
	}
}

// TestShared: W5, W6: a table whose globals share their code, or whose lists are empty where others are nil, is as good as any other.
func TestShared(t *testing.T) {
	x := base()
	for i := range x.Globals {
		x.Globals[i].Code = x.Globals[0].Code
	}
	got, _ := checkPlain(t, x)
	if overlap(append(rooms(got), roomOf(x.Globals[0].Code))) {
		t.Error("lists of the answer share memory")
	}
	x.Globals = []api.Global{}
	if got := peeped(t, x); len(got.Globals) != 0 || len(got.Shapes) != 8 {
		t.Error(shown(got))
	}
}

// TestAtOneTime: W2: the answer does not hang on what is asked at the same time.
func TestAtOneTime(t *testing.T) {
	var tables []api.Table
	var want []string
	many(t, 4, 100, func(m *maker) {
		tables = append(tables, m.table)
		want = append(want, shown(peeped(t, m.table)))
	})
	var all sync.WaitGroup
	for range 4 {
		all.Go(func() {
			for i, x := range tables {
				if y, _ := peep.Peep(x); shown(y) != want[i] {
					t.Errorf("%s, want %s", shown(y), want[i])
				}
			}
		})
	}
	all.Wait()
}
