package code_test

import (
	"fmt"
	"reflect"
	"runtime"
	"slices"
	"strings"
	"testing"
	"time"

	"sloth/api"
	"sloth/code"
)

// seven is the text of the shapes with which every table begins.
const seven = "shape \"False\" 0\nshape \"True\" 0\nshape \"Unit\" 0\nshape \"Nil\" 0\nshape \"Cons\" 2\nshape \"Pair\" 2\nshape \"Triple\" 3\n"

func short(s string) string {
	if len(s) > 2000 {
		s = s[:1000] + " .. " + s[len(s)-1000:]
	}
	return s
}

// read reads what must not be refused.
func read(t *testing.T, text string) api.Table {
	t.Helper()
	x, e := code.Read(text)
	if e != api.OK {
		t.Fatalf("Read(%s): %v", short(text), e)
	}
	return x
}

// shapes is the seven and others.
func shapes(more ...api.Shape) []api.Shape {
	return append([]api.Shape{{Name: "False"}, {Name: "True"}, {Name: "Unit"}, {Name: "Nil"}, {Name: "Cons", Fields: 2}, {Name: "Pair", Fields: 2}, {Name: "Triple", Fields: 3}}, more...)
}

// one is a table with one global.
func one(arity int, l ...api.Instr) api.Table {
	return api.Table{Shapes: shapes(), Globals: []api.Global{{Name: "f", Arity: arity, Code: l}}}
}

func in(op int, numbers ...int) api.Instr {
	x := api.Instr{Op: op}
	if len(numbers) > 0 {
		x.A = numbers[0]
	}
	if len(numbers) > 1 {
		x.B = numbers[1]
	}
	return x
}

// ending is a code that a global of any Arity may have.
var ending = []api.Instr{{Op: api.OpFail, A: 1}}

// global is one with a right code, if the Arity may be.
func global(name string, arity int) api.Global {
	return api.Global{Name: name, Arity: arity, Code: ending}
}

// alike: two tables are the same (W5: a nil list is an empty one).
func alike(a, b api.Table) bool {
	return slices.Equal(a.Shapes, b.Shapes) && slices.EqualFunc(a.Globals, b.Globals, func(x, y api.Global) bool {
		return x.Name == y.Name && x.Arity == y.Arity && slices.Equal(x.Code, y.Code)
	})
}

func isZero(t api.Table) bool { return reflect.DeepEqual(t, api.Table{}) }

// clone is a table in memory of its own.
func clone(t api.Table) api.Table {
	u := api.Table{Shapes: slices.Clone(t.Shapes), Globals: slices.Clone(t.Globals)}
	for i := range u.Globals {
		u.Globals[i].Code = slices.Clone(u.Globals[i].Code)
	}
	return u
}

// checkTable: Check says that of a table, and Print and Bytes say the same, with nothing beside it.
func checkTable(t *testing.T, what string, x api.Table, want api.Errno) {
	t.Helper()
	if e := code.Check(x); e != want {
		t.Errorf("Check(%s): %v, want %v", short(what), e, want)
	}
	if want == api.OK {
		return
	}
	if s, e := code.Print(x); s != "" || e != want {
		t.Errorf("Print(%s): %d bytes, %v, want %v", short(what), len(s), e, want)
	}
	if b, e := code.Bytes(x); b != nil || e != want {
		t.Errorf("Bytes(%s): %d bytes, %v, want %v", short(what), len(b), e, want)
	}
}

// checkText: Check says that of the table of the seven and a text.
func checkText(t *testing.T, text string, want api.Errno) {
	t.Helper()
	checkTable(t, text, read(t, seven+text), want)
}

// checkRead: Read says that error of a text, and nothing beside it.
func checkRead(t *testing.T, text string, want api.Errno) {
	t.Helper()
	x, e := code.Read(text)
	if e != want {
		t.Errorf("Read(%s): %v, want %v", short(text), e, want)
	}
	if e != api.OK && !isZero(x) {
		t.Errorf("Read(%s): a table beside %v", short(text), e)
	}
}

// checkLoad: Load says that error of some bytes, and nothing beside it.
func checkLoad(t *testing.T, what string, b []byte, want api.Errno) {
	t.Helper()
	x, e := code.Load(b)
	if e != want {
		t.Errorf("Load(%s): %v, want %v", short(what), e, want)
	}
	if e != api.OK && !isZero(x) {
		t.Errorf("Load(%s): a table beside %v", short(what), e)
	}
}

// printed writes what must not be refused.
func printed(t *testing.T, x api.Table) string {
	t.Helper()
	s, e := code.Print(x)
	if e != api.OK {
		t.Fatalf("Print(%s): %v", short(fmt.Sprint(x)), e)
	}
	return s
}

// packed is the bytes of what must not be refused.
func packed(t *testing.T, x api.Table) []byte {
	t.Helper()
	b, e := code.Bytes(x)
	if e != api.OK {
		t.Fatalf("Bytes(%s): %v", short(fmt.Sprint(x)), e)
	}
	return b
}

// loaded reads bytes that must not be refused.
func loaded(t *testing.T, b []byte) api.Table {
	t.Helper()
	x, e := code.Load(b)
	if e != api.OK {
		t.Fatalf("Load(%s): %v", short(fmt.Sprint(b)), e)
	}
	return x
}

// soon: something comes to its end in bearable time.
func soon(t *testing.T, what string, do func()) {
	t.Helper()
	begin := time.Now()
	do()
	if d := time.Since(begin); d > 20*time.Second {
		t.Errorf("%s: %v", what, d)
	}
}

// spent tells how many bytes of memory something takes.
func spent(do func()) uint64 {
	var ahead, behind runtime.MemStats
	runtime.ReadMemStats(&ahead)
	do()
	runtime.ReadMemStats(&behind)
	return behind.TotalAlloc - ahead.TotalAlloc
}

func repeat(n int, x ...api.Instr) []api.Instr { return slices.Repeat(x, n) }

func long(n int) string { return strings.Repeat("x", n) }
