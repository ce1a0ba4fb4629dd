package peep_test

import (
	"fmt"
	"reflect"
	"slices"
	"testing"
	"time"

	"sloth/api"
	"sloth/code"
	"sloth/peep"
)

// seven is the text of the shapes with which every table begins; eight has one more.
const (
	seven = `shape "False" 0 shape "True" 0 shape "Unit" 0 shape "Nil" 0 shape "Cons" 2 shape "Pair" 2 shape "Triple" 3 `
	eight = seven + `shape "A" 1 `
)

func short(s string) string {
	if len(s) > 1500 {
		s = s[:800] + " .. " + s[len(s)-600:]
	}
	return s
}

// shown writes a table.
func shown(x api.Table) string {
	s, e := code.Print(x)
	if e != api.OK {
		return fmt.Sprint(e, " of ", short(fmt.Sprint(x)))
	}
	return short(s)
}

// table reads a table of the eight shapes and a text, which need not be right.
func table(t *testing.T, text string) api.Table {
	t.Helper()
	x, e := code.Read(eight + text)
	if e != api.OK {
		t.Fatalf("the test is wrong: %s: %v", short(text), e)
	}
	return x
}

// instrs reads a code.
func instrs(t *testing.T, text string) []api.Instr {
	t.Helper()
	return table(t, `global "f" 0 `+text).Globals[0].Code
}

// one is a table of one global.
func one(arity int, l []api.Instr) api.Table {
	shapes := append([]api.Shape{{Name: "False"}, {Name: "True"}, {Name: "Unit"}, {Name: "Nil"}, {Name: "Cons", Fields: 2}, {Name: "Pair", Fields: 2}, {Name: "Triple", Fields: 3}}, api.Shape{Name: "A", Fields: 1})
	return api.Table{Shapes: shapes, Globals: []api.Global{{Name: "f", Arity: arity, Code: l}}}
}

func in(op int, numbers ...int) api.Instr {
	x := api.Instr{Op: op}
	if len(numbers) > 0 {
		x.A = numbers[0]
	}
	if len(numbers) > 1 {
		x.B = numbers[1]
	}
	return x
}

// alike: two tables are the same.
func alike(a, b api.Table) bool {
	return slices.Equal(a.Shapes, b.Shapes) && slices.EqualFunc(a.Globals, b.Globals, func(x, y api.Global) bool {
		return x.Name == y.Name && x.Arity == y.Arity && slices.Equal(x.Code, y.Code)
	})
}

func clone(t api.Table) api.Table {
	u := api.Table{Shapes: slices.Clone(t.Shapes), Globals: slices.Clone(t.Globals)}
	for i := range u.Globals {
		u.Globals[i].Code = slices.Clone(u.Globals[i].Code)
	}
	return u
}

// peeped is the answer of a right table: one that is right, and is the answer of itself (P19.3).
func peeped(t *testing.T, x api.Table) api.Table {
	t.Helper()
	y, e := peep.Peep(x)
	if e != api.OK {
		t.Fatalf("Peep: %v of\n%s", e, shown(x))
	}
	if e := code.Check(y); e != api.OK {
		t.Fatalf("the answer is %v, of\n%s", e, shown(x))
	}
	again, e := peep.Peep(y)
	if e != api.OK || !alike(y, again) {
		t.Fatalf("%v, of\n%s, which is the answer of\n%s, it becomes\n%s", e, shown(y), shown(x), shown(again))
	}
	return y
}

// checkError: Peep says that error of a table, with nothing beside it; which is code.Check's.
func checkError(t *testing.T, what string, x api.Table, want api.Errno) {
	t.Helper()
	if e := code.Check(x); e != want {
		t.Errorf("the test is wrong: %s: code.Check: %v, want %v", short(what), e, want)
	}
	y, e := peep.Peep(x)
	if e != want || e != api.OK && !reflect.DeepEqual(y, api.Table{}) {
		t.Errorf("%s: %v, want %v, and %s", short(what), e, want, shown(y))
	}
}

// checkPlain: Peep answers what the second form does; which rules were carried out is told.
func checkPlain(t *testing.T, x api.Table) (api.Table, []deed) {
	t.Helper()
	got := peeped(t, x)
	want, deeds := plainPeep(x)
	if !alike(got, want) {
		t.Fatalf("of\n%s\nit makes\n%s\nwant\n%s\nby %v", shown(x), shown(got), shown(want), deeds)
	}
	return got, deeds
}

// checkCode: the code of a global becomes another one, by these rules at these places (as 8@0 2@0).
func checkCode(t *testing.T, arity int, l, want []api.Instr, rules string) {
	t.Helper()
	got, deeds := checkPlain(t, one(arity, l))
	if !alike(got, one(arity, want)) {
		t.Errorf("of\n%s\nit makes\n%s\nwant\n%s", shown(one(arity, l)), shown(got), shown(one(arity, want)))
	}
	if s := fmt.Sprint(deeds); s != "["+rules+"]" {
		t.Errorf("of\n%s\nthe rules are %s, want %s", shown(one(arity, l)), s, rules)
	}
}

// soon: something comes to its end in bearable time.
func soon(t *testing.T, what string, do func()) {
	t.Helper()
	begin := time.Now()
	do()
	d := time.Since(begin)
	if t.Logf("%s: %v", what, d); d > 20*time.Second {
		t.Errorf("%s: %v", what, d)
	}
}
