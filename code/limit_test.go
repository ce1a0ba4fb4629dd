package code_test

import (
	"fmt"
	"strings"
	"testing"

	"sloth/api"
	"sloth/code"
)

// manyShapes is the seven and so many others.
func manyShapes(n int) []api.Shape {
	l := shapes()
	for i := range n {
		l = append(l, api.Shape{Name: fmt.Sprint("S", i)})
	}
	return l
}

func manyGlobals(n int) []api.Global {
	var l []api.Global
	for i := range n {
		l = append(l, global(fmt.Sprint("g", i), 0))
	}
	return l
}

// evals is a right code of so many instructions, for a global of Arity 1.
func evals(n int) []api.Instr {
	return append(repeat(n-2, in(api.OpEval)), in(api.OpPop, 1), in(api.OpUnwind))
}

// filled is a table with so many instructions: of as many in each global as may be.
func filled(instrs int) api.Table {
	x := api.Table{Shapes: shapes()}
	for instrs > 0 {
		n := min(instrs, api.MaxCode)
		g := api.Global{Name: fmt.Sprint("f", instrs), Arity: 1, Code: evals(max(n, 2))}
		if n == 1 {
			g.Code = ending
		}
		x.Globals = append(x.Globals, g)
		instrs -= n
	}
	return x
}

// TestBig: P17.1, P17.3, P17.6: as many shapes, globals and instructions as may be, and one more.
func TestBig(t *testing.T) {
	for what, x := range map[string]struct {
		table api.Table
		want  api.Errno
	}{
		"MaxGlobals shapes":      {api.Table{Shapes: manyShapes(api.MaxGlobals - 7)}, api.OK},
		"one more":               {api.Table{Shapes: manyShapes(api.MaxGlobals - 6)}, api.ErrBig},
		"MaxGlobals globals":     {api.Table{Shapes: shapes(), Globals: manyGlobals(api.MaxGlobals)}, api.OK},
		"one more global":        {api.Table{Shapes: shapes(), Globals: manyGlobals(api.MaxGlobals + 1)}, api.ErrBig},
		"both":                   {api.Table{Shapes: manyShapes(api.MaxGlobals - 7), Globals: manyGlobals(api.MaxGlobals)}, api.OK},
		"MaxCode instructions":   {api.Table{Shapes: shapes(), Globals: []api.Global{{Name: "f", Arity: 1, Code: evals(api.MaxCode)}}}, api.OK},
		"one more instruction":   {api.Table{Shapes: shapes(), Globals: []api.Global{global("g", 0), {Name: "f", Arity: 1, Code: evals(api.MaxCode + 1)}}}, api.ErrBig},
		"MaxInstrs instructions": {filled(api.MaxInstrs), api.OK},
		"one more in all":        {filled(api.MaxInstrs + 1), api.ErrBig},
	} {
		checkTable(t, what, x.table, x.want)
		soon(t, what, func() {
			text := plainPrint(x.table)
			checkRead(t, text, x.want)
			checkRead(t, text+" unwind unwind )", api.ErrCodeText) // that it is no text is told first
			checkRead(t, text+`global "!" 0 glob "nobody"`, api.ErrCodeText)
			if x.want != api.OK {
				checkLoad(t, what, plainBytes(x.table), api.ErrCodeBytes)
				return
			}
			if printed(t, x.table) != text || !alike(read(t, text), x.table) || !alike(loaded(t, packed(t, x.table)), x.table) {
				t.Error(what, "there and back")
			}
		})
	}
}

// TestBigFirst: P17.1: ErrBig ahead of all else.
func TestBigFirst(t *testing.T) {
	for what, x := range map[string]api.Table{
		"shapes":                   {Shapes: make([]api.Shape, api.MaxGlobals+1)},
		"globals":                  {Globals: make([]api.Global, api.MaxGlobals+1)},
		"instructions":             {Globals: []api.Global{{}, {Code: make([]api.Instr, api.MaxCode+1)}}},
		"instructions in all":      {Globals: append(make([]api.Global, 1), filled(api.MaxInstrs+1).Globals...)},
		"very many instructions":   {Globals: append(make([]api.Global, 1), filled(2000 * api.MaxCode).Globals[:1999]...)},
		"very many in one":         {Globals: []api.Global{{Code: make([]api.Instr, 1<<22)}}},
		"globals without anything": {Shapes: shapes(), Globals: make([]api.Global, 1<<22)},
	} {
		soon(t, what, func() { checkTable(t, what, x, api.ErrBig) })
	}
	checkTable(t, "as many wrong shapes as may be", api.Table{Shapes: make([]api.Shape, api.MaxGlobals)}, api.ErrCodeName)
	checkTable(t, "as many wrong globals as may be", api.Table{Shapes: shapes(), Globals: make([]api.Global, api.MaxGlobals)}, api.ErrCodeName)
	checkTable(t, "as many wrong instructions as may be", one(0, make([]api.Instr, api.MaxCode)...), api.ErrCodeName)
}

// TestReadLong: P17.3: a text of MaxCodeText bytes and one more, whatever it is.
func TestReadLong(t *testing.T) {
	for _, x := range []struct {
		text string
		want api.Errno
	}{{seven + `global "f" 0 unwind`, api.OK}, {"", api.OK}, {"no", api.ErrCodeText}, {`global "`, api.ErrCodeText}} {
		for _, fill := range []string{" ", "\n", "\t"} {
			text := x.text + strings.Repeat(fill, api.MaxCodeText-len(x.text))
			checkRead(t, text, x.want)
			checkRead(t, text+fill, api.ErrLong)
			checkRead(t, text+"\x00", api.ErrLong)
			checkRead(t, fill+text, api.ErrLong)
		}
	}
}

// TestReadGreat: W1, P17.3: very long texts come to their end.
func TestReadGreat(t *testing.T) {
	begin := `shape "A" 0 global "f" 0 `
	for piece, want := range map[string]api.Errno{
		"eval ": api.ErrBig, `glob"f"`: api.ErrBig, `pack"A"`: api.ErrBig, "push 0 ": api.ErrBig, "arith >= ": api.ErrBig, `global"f"0 `: api.ErrBig, `testcon"A"0 `: api.ErrBig,
		"x": api.ErrCodeText, "0": api.ErrCodeText, `"`: api.ErrCodeText, `\`: api.ErrCodeText, "int 1": api.ErrCodeText, `"x"`: api.ErrCodeText, `glob"g"`: api.ErrCodeText, `shape"A"0 `: api.ErrCodeText,
	} {
		text := begin + strings.Repeat(piece, (api.MaxCodeText-len(begin))/len(piece))
		soon(t, piece, func() { checkRead(t, text, want) })
	}
	for text, want := range map[string]api.Errno{
		strings.Repeat(`shape"A"0 `, api.MaxCodeText/10):              api.ErrBig,
		"shape " + strings.Repeat("9", api.MaxCodeText-6):             api.ErrCodeText,
		`shape "A" ` + strings.Repeat("9", api.MaxCodeText-10):        api.ErrCodeText,
		`shape "` + strings.Repeat("9", api.MaxCodeText-7):            api.ErrCodeText,
		`shape "` + strings.Repeat(`\"`, api.MaxCodeText/2-5) + `" 0`: api.ErrCodeText,
		`shape "` + strings.Repeat(`\"`, api.MaxName) + `" 0`:         api.OK,
		`shape "` + strings.Repeat(`\\`, api.MaxName+1) + `" 0`:       api.ErrCodeText,
		`shape "` + long(api.MaxName) + `" 0`:                         api.OK,
		`shape "` + long(api.MaxName+1) + `" 0`:                       api.ErrCodeText,
	} {
		soon(t, text[:20], func() { checkRead(t, text, want) })
	}
}

// sized is a table, made greater by shapes whose names fill what is left, so that its text, or its bytes, are so many.
func sized(t *testing.T, size int, measure func(api.Table) int, x api.Table) api.Table {
	t.Helper()
	left := size - measure(x)
	for left > 0 {
		x.Shapes = append(x.Shapes, api.Shape{Name: fmt.Sprint("?", len(x.Shapes), long(1000))})
		more := max(size-measure(x), 0)
		if more > 3000 {
			more = 1000 // so that what is left is enough for one more
		}
		x.Shapes[len(x.Shapes)-1].Name += long(more)
		left = size - measure(x)
	}
	if left != 0 || len(x.Shapes) > api.MaxGlobals {
		t.Fatal("the test is wrong:", left, "bytes left,", len(x.Shapes), "shapes")
	}
	return x
}

// longNames is a table with so many shapes and globals with names of MaxName bytes; its first global names itself so many times.
func longNames(more, globals, times int) api.Table {
	x := api.Table{Shapes: shapes()}
	name := func(i int) string { return fmt.Sprintf("%04d%s", i, long(api.MaxName-4)) }
	for i := range more {
		x.Shapes = append(x.Shapes, api.Shape{Name: name(i)})
	}
	for i := range globals {
		x.Globals = append(x.Globals, global(name(i), 0))
	}
	x.Globals[0].Code = append(repeat(times, in(api.OpGlobal, 0)), ending...)
	return x
}

// TestPrintLong: P17.4, P17.7: a text of MaxCodeText bytes and one more; by shapes, by globals, by instructions.
func TestPrintLong(t *testing.T) {
	measure := func(x api.Table) int { return len(plainPrint(x)) }
	for _, x := range []api.Table{longNames(1940, 100, 0), longNames(65, 1970, 0), longNames(1, 1, 2038)} {
		y := sized(t, api.MaxCodeText, measure, x)
		s := printed(t, y)
		if len(s) != api.MaxCodeText || s != plainPrint(y) || !alike(read(t, s), y) {
			t.Error(len(s), "bytes")
		}
		checkBig(t, "Print", sized(t, api.MaxCodeText+1, measure, x))
	}
	y := longNames(1, 1, api.MaxCode-1)
	for i := range 24 {
		y.Globals = append(y.Globals, api.Global{Name: fmt.Sprint(i), Code: y.Globals[0].Code})
	}
	if n := spent(func() { checkBig(t, "Print", y) }); n > 1<<27 {
		t.Error("names that stand very often:", n, "bytes")
	}
	if b := packed(t, y); !alike(loaded(t, b), y) {
		t.Error("there and back")
	}
}

// checkBig: a right table is too great to be printed, or to be bytes.
func checkBig(t *testing.T, call string, x api.Table) {
	t.Helper()
	if e := code.Check(x); e != api.OK {
		t.Fatal("the test is wrong:", e)
	}
	n, e := 0, api.OK
	switch call {
	case "Print":
		s, f := code.Print(x)
		n, e = len(s), f
	default:
		b, f := code.Bytes(x)
		n, e = len(b), f
	}
	if n != 0 || e != api.ErrBig {
		t.Errorf("%s: %d bytes, %v", call, n, e)
	}
}

// TestBytesLong: P17.6, P17.8: MaxCodeText bytes and one more.
func TestBytesLong(t *testing.T) {
	measure := func(x api.Table) int { return len(plainBytes(x)) }
	for _, x := range []api.Table{longNames(1900, 140, 0), longNames(50, 1990, 0)} {
		y := sized(t, api.MaxCodeText, measure, x)
		b := packed(t, y)
		if len(b) != api.MaxCodeText || string(b) != string(plainBytes(y)) || !alike(loaded(t, b), y) {
			t.Error(len(b), "bytes")
		}
		checkLoad(t, "one byte put behind", append(b, 0), api.ErrLong)
		checkLoad(t, "one byte cut off", b[:len(b)-1], api.ErrCodeBytes)
		z := sized(t, api.MaxCodeText+1, measure, x)
		checkBig(t, "Bytes", z)
		checkLoad(t, "the bytes of a right table, but one too many", plainBytes(z), api.ErrLong)
	}
	checkBig(t, "Bytes", longNames(1993, 2000, 0))
	for _, n := range []int{0, 1, 255} {
		b := []byte(strings.Repeat(string([]byte{byte(n)}), api.MaxCodeText))
		soon(t, "one byte again and again", func() {
			checkLoad(t, "MaxCodeText bytes", b, api.ErrCodeBytes)
			checkLoad(t, "one more", append(b, b[0]), api.ErrLong)
		})
	}
}
