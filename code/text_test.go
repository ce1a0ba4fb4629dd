package code_test

import (
	"fmt"
	"strings"
	"testing"

	"sloth/api"
	"sloth/code"
)

// whole is a text with all that the grammar has, as Print writes it.
const whole = seven + `shape "A" 8
shape "q\"\\ (" 1
global "f" 0
  glob "g\\"
  int -3
  apply
  update 1
  unwind
global "g\\" 2
  push 1
  eval
  testint -4611686018427387904 8
  split "Cons"
  pack "q\"\\ ("
  slide 0
  pop 4
  unwind
  testcon "q\"\\ (" 11
  alloc 3
  jump 12
  alloc 3
  arith <=
  fail 3
`

// wholeTable is what the text whole means.
func wholeTable() api.Table {
	return api.Table{
		Shapes: shapes(api.Shape{Name: "A", Fields: 8}, api.Shape{Name: `q"\ (`, Fields: 1}),
		Globals: []api.Global{
			{Name: "f", Code: []api.Instr{{Op: api.OpGlobal, A: 1}, {Op: api.OpInt, A: -3}, {Op: api.OpApply}, {Op: api.OpUpdate, A: 1}, {Op: api.OpUnwind}}},
			{Name: `g\`, Arity: 2, Code: []api.Instr{
				{Op: api.OpPush, A: 1}, {Op: api.OpEval}, {Op: api.OpTestInt, A: api.MinInt, B: 8}, {Op: api.OpSplit, A: 4}, {Op: api.OpPack, A: 8}, {Op: api.OpSlide}, {Op: api.OpPop, A: 4}, {Op: api.OpUnwind},
				{Op: api.OpTestCon, A: 8, B: 11}, {Op: api.OpAlloc, A: 3}, {Op: api.OpJump, A: 12}, {Op: api.OpAlloc, A: 3}, {Op: api.OpArith, A: api.ArithLe}, {Op: api.OpFail, A: 3},
			}},
		},
	}
}

// TestWhole: P17.2, P17.3, P17.4: all instructions, read and written.
func TestWhole(t *testing.T) {
	x := read(t, whole)
	if !alike(x, wholeTable()) {
		t.Errorf("Read: %v", x)
	}
	checkTable(t, "the whole", x, api.OK)
	if s := printed(t, wholeTable()); s != whole {
		t.Errorf("Print: %s", s)
	}
	if s := printed(t, api.Table{Shapes: shapes()}); s != seven {
		t.Errorf("Print of the seven: %s", s)
	}
}

// TestWords: P17.2: each instruction's word, and each operator's text.
func TestWords(t *testing.T) {
	for text, want := range map[string]api.Instr{
		"push 5": in(api.OpPush, 5), `glob "f"`: in(api.OpGlobal, 0), `glob "g"`: in(api.OpGlobal, 1), "int -5": in(api.OpInt, -5), "pop 5": in(api.OpPop, 5), "slide 5": in(api.OpSlide, 5), "apply": in(api.OpApply), "update 5": in(api.OpUpdate, 5), "alloc 5": in(api.OpAlloc, 5),
		`pack "Cons"`: in(api.OpPack, 4), `split "g"`: in(api.OpSplit, 7), "eval": in(api.OpEval), "jump 5": in(api.OpJump, 5), `testcon "False" 5`: in(api.OpTestCon, 0, 5), `testcon "g" 0`: in(api.OpTestCon, 7, 0), "testint -6 5": in(api.OpTestInt, -6, 5), "fail 3": in(api.OpFail, 3), "unwind": in(api.OpUnwind),
		"arith +": in(api.OpArith, 1), "arith -": in(api.OpArith, 2), "arith *": in(api.OpArith, 3), "arith /": in(api.OpArith, 4), "arith %": in(api.OpArith, 5), "arith ==": in(api.OpArith, 6), "arith /=": in(api.OpArith, 7), "arith <": in(api.OpArith, 8), "arith <=": in(api.OpArith, 9), "arith >": in(api.OpArith, 10), "arith >=": in(api.OpArith, 11),
	} {
		head := seven + "shape \"g\" 0\n"
		x := read(t, head+`global "f" 9 `+text+` global "g" 0 fail 1`)
		if len(x.Globals) != 2 || len(x.Globals[0].Code) != 1 || x.Globals[0].Code[0] != want {
			t.Errorf("%s: %v", text, x.Globals)
			continue
		}
		text := text
		if want.Op == api.OpJump || want.Op == api.OpTestCon || want.Op == api.OpTestInt {
			text = text[:strings.LastIndex(text, " ")] + " 12" // where there is an instruction
		}
		ahead := "global \"f\" 0\n" + strings.Repeat("  int 1\n", 11) + "  "
		lines := head + ahead + text + "\n  fail 1\nglobal \"g\" 0\n  fail 1\n"
		if want.Op == api.OpFail {
			lines = strings.Replace(lines, "  fail 1\n", "", 1)
		}
		if want.Op == api.OpUnwind {
			lines = strings.Replace(strings.Replace(lines, "unwind", "pop 11\n  unwind", 1), "  fail 1\n", "", 1)
		}
		if s := printed(t, read(t, lines)); s != lines {
			t.Errorf("Print: %s\nwant %s", s, lines)
		}
	}
}

// TestBlanks: P17.2, P17.7: blanks of each kind, many of them, and as few as may be; Print is the same.
func TestBlanks(t *testing.T) {
	plain := strings.NewReplacer(`q\"\\ (`, "B", `g\\`, "g").Replace(whole) // a blank in a name is its own
	l := []string{plain}
	for _, blank := range []string{" ", "\t", "\n", "\r", " \t\r\n\n "} {
		l = append(l, strings.Join(strings.Fields(plain), blank), blank+strings.Join(strings.Fields(plain), blank)+blank)
	}
	tight := strings.ReplaceAll(strings.ReplaceAll(strings.Join(strings.Fields(plain), " "), ` "`, `"`), `" `, `"`)
	for _, s := range append(l, tight) {
		if got := printed(t, read(t, s)); got != plain {
			t.Errorf("Print of Read(%s): %s", s, got)
		}
	}
	if !strings.Contains(tight, `glob"g"int -3 apply`) || !strings.HasPrefix(tight, `shape"False"0 shape"True"0 `) {
		t.Error("not tight:", tight)
	}
	for _, s := range []string{"", " ", "\t\r\n \n"} {
		if x := read(t, s); !alike(x, api.Table{}) {
			t.Errorf("Read(%q): %v", s, x)
		}
	}
}

// TestQuotes: P17.2, P17.4: names of quotes, of brackets, of blanks, and of words that have a meaning elsewhere.
func TestQuotes(t *testing.T) {
	for name, text := range map[string]string{
		`"`: `"\""`, `\`: `"\\"`, `""`: `"\"\""`, `\"`: `"\\\""`, `\\`: `"\\\\"`, `a"b\c`: `"a\"b\\c"`, " ": `" "`, "  ": `"  "`, "(": `"("`, ")": `")"`, "()": `"()"`, "global": `"global"`, "unwind": `"unwind"`, "0": `"0"`, "-1": `"-1"`, "~": `"~"`, "!": `"!"`, "M.f{Int,(List Int)}$1!2'": `"M.f{Int,(List Int)}$1!2'"`,
		long(api.MaxName): `"` + long(api.MaxName) + `"`, strings.Repeat(`"`, api.MaxName): `"` + strings.Repeat(`\"`, api.MaxName) + `"`,
	} {
		x := api.Table{Shapes: shapes(api.Shape{Name: name}), Globals: []api.Global{{Name: name, Code: []api.Instr{{Op: api.OpGlobal}, {Op: api.OpPack, A: 7}, {Op: api.OpSplit, A: 7}, {Op: api.OpTestCon, A: 7, B: 4}, {Op: api.OpFail, A: 1}}}}}
		want := seven + "shape " + text + " 0\nglobal " + text + " 0\n  glob " + text + "\n  pack " + text + "\n  split " + text + "\n  testcon " + text + " 4\n  fail 1\n"
		if s := printed(t, x); s != want {
			t.Errorf("Print: %s, want %s", short(s), short(want))
		}
		if y := read(t, want); !alike(x, y) {
			t.Errorf("Read(%s): %v", short(want), short(fmt.Sprint(y)))
		}
	}
}

// TestMeant: P17.2: a name means the first one of the whole text, of its kind; a global may be named ahead of what tells it.
func TestMeant(t *testing.T) {
	for text, want := range map[string]api.Table{
		`shape "a" 1 shape "b" 2 shape "a" 3 global "b" 0 pack "a" split "b" testcon "a" 0 glob "b"`: {
			Shapes: []api.Shape{{Name: "a", Fields: 1}, {Name: "b", Fields: 2}, {Name: "a", Fields: 3}}, Globals: []api.Global{{Name: "b", Code: []api.Instr{in(api.OpPack, 0), in(api.OpSplit, 1), in(api.OpTestCon, 0, 0), in(api.OpGlobal, 0)}}}},
		`global "x" 0 glob "y" glob "x" glob "z" global "z" 1 glob "x" global "y" 2 glob "y" global "x" 3 glob "x" global "y" 4 glob "z" glob "y"`: {Globals: []api.Global{
			{Name: "x", Code: []api.Instr{in(api.OpGlobal, 2), in(api.OpGlobal, 0), in(api.OpGlobal, 1)}}, {Name: "z", Arity: 1, Code: []api.Instr{in(api.OpGlobal, 0)}}, {Name: "y", Arity: 2, Code: []api.Instr{in(api.OpGlobal, 2)}},
			{Name: "x", Arity: 3, Code: []api.Instr{in(api.OpGlobal, 0)}}, {Name: "y", Arity: 4, Code: []api.Instr{in(api.OpGlobal, 1), in(api.OpGlobal, 2)}}}},
		`global "f" 0 glob "g" global "g" 0 glob "h" global "h" 0`: {Globals: []api.Global{{Name: "f", Code: []api.Instr{in(api.OpGlobal, 1)}}, {Name: "g", Code: []api.Instr{in(api.OpGlobal, 2)}}, {Name: "h"}}},
	} {
		if x := read(t, text); !alike(x, want) {
			t.Errorf("Read(%s): %v, want %v", text, x, want)
		}
	}
	for _, text := range []string{
		`global "f" 0 glob "g"`, `shape "g" 0 global "f" 0 glob "g"`, `global "f" 0 pack "f"`, `global "f" 0 pack "Nil"`, `global "f" 0 split "f"`, `global "f" 0 testcon "f" 0`, `shape "A" 0 global "f" 0 pack "a"`, `global "f" 0 glob "f " `, `global "f" 0 glob "F"`, `shape "A" 0 global "f" 0 split "A" split "B"`,
		`global "f" 0 glob "g" global "h" 0`, `global "f" 0 global "g" 0 glob "h"`, `global "f" 0 glob "f" glob "g" global "gg" 0`,
	} {
		checkRead(t, text, api.ErrCodeText)
	}
}

// TestReadAny: P17.3: tables that Check does not take are read.
func TestReadAny(t *testing.T) {
	for text, want := range map[string]api.Table{
		`shape "A" -1`:       {Shapes: []api.Shape{{Name: "A", Fields: -1}}},
		`shape "False" 9`:    {Shapes: []api.Shape{{Name: "False", Fields: 9}}},
		`global "f" -5`:      {Globals: []api.Global{{Name: "f", Arity: -5}}},
		`global "f" 25 eval`: {Globals: []api.Global{{Name: "f", Arity: 25, Code: []api.Instr{in(api.OpEval)}}}},
		`global "f" 0 push -1 pop -2 slide -3 update 0 alloc -4 jump -5 testint 1 -6 fail 0 fail 5 fail -1`: {Globals: []api.Global{{Name: "f", Code: []api.Instr{
			in(api.OpPush, -1), in(api.OpPop, -2), in(api.OpSlide, -3), in(api.OpUpdate, 0), in(api.OpAlloc, -4), in(api.OpJump, -5), in(api.OpTestInt, 1, -6), in(api.OpFail, 0), in(api.OpFail, 5), in(api.OpFail, -1)}}}},
		`shape "A" 4611686018427387903 global "f" -4611686018427387904 push 4611686018427387903 testint -4611686018427387904 4611686018427387903 testcon "A" -4611686018427387904`: {
			Shapes: []api.Shape{{Name: "A", Fields: api.MaxInt}}, Globals: []api.Global{{Name: "f", Arity: api.MinInt, Code: []api.Instr{in(api.OpPush, api.MaxInt), in(api.OpTestInt, api.MinInt, api.MaxInt), in(api.OpTestCon, 0, api.MinInt)}}}},
	} {
		if x := read(t, text); !alike(x, want) {
			t.Errorf("Read(%s): %v", text, x)
		}
	}
}

// TestNoText: P17.3: texts that are no table's.
func TestNoText(t *testing.T) {
	var l []string
	for _, s := range []string{
		"shape", "global", `shape "A"`, `global "f"`, "x", "0", `"A"`, "(", ")", "()", "unwind", "eval", "push 0", `shape A 0`, `global f 0`, `shape "" 0`, `global "" 0`, `shape 0 "A"`, `shape "A" "0"`, `shape "A" 0 0`, `shape "A" 0 "B" 0`, `shape "A" 0 unwind`, `shape "A" 0 push 0`, `"shape" "A" 0`, `shapes "A" 0`, `Shape "A" 0`, `sha pe "A" 0`, `shape"A"0shape"B"0`, `shape "A" 0global "f" 0`, `(shape "A" 0)`, `shape ("A") 0`,
		`global "f" 0 shape "A" 0`, `global "f" 0 unwind shape "A" 0`, `shape "A" 0 global "f" 0 shape "A" 0`, `glob "f" 0`, `global "f" "g" 0`,
		`shape "A 0`, `shape "A\" 0`, `shape "A\`, `shape "`, `shape "\a" 0`, `shape "\ " 0`, `shape A" 0`, `shape "A"" 0`, `shape "A"B" 0`, "shape \"A\nB\" 0", "shape \"\t\" 0", "\ufeff" + `shape "A" 0`, `shape "A" 0` + "\x00", `shape "A" 0` + "\x0b", "\x0c", "é", `shape "é" 0`, "shape\u00a0\"A\" 0",
	} {
		l = append(l, s)
	}
	for _, n := range []string{"01", "00", "-0", "-01", "+1", "+0", "--1", "-", "1.", "1.0", "1e3", "0x1", "0b1", "1_0", "_1", "x", "1x", "(1)", "4611686018427387904", "-4611686018427387905", "9223372036854775807", "-9223372036854775808", "9223372036854775808", "18446744073709551616", "99999999999999999999999999999999", "-99999999999999999999999999999999", `"1"`, "1-", "1,"} {
		l = append(l, `shape "A" `+n, `global "f" `+n, `shape "A" 0 global "f" 0 testcon "A" `+n, `global "f" 0 testint `+n+` 1`, `global "f" 0 testint 1 `+n)
		for _, word := range []string{"push", "int", "pop", "slide", "update", "alloc", "jump", "fail"} {
			l = append(l, `global "f" 0 `+word+" "+n)
		}
	}
	for _, s := range []string{
		"foo", "0", `"f"`, "push", "push push", `push "f"`, "push 0 0", "glob", "glob f", "glob 0", `glob "f" 0`, "int", `int "1"`, "int 1 2", "pop", "slide", "apply 1", `apply "f"`, "update", "alloc", "pack", "pack A", "pack 0", `pack "A" 1`, "split", "split 0", `split "A" 1`, "eval 1", `eval "f"`, "arith", "arith 1", `arith "+"`, "arith &&", "arith =", "arith !=", "arith + +", "arith add", "arith +-", "arith ++", "jump", "jump 1 2",
		"testcon", `testcon "A"`, `testcon 0 1`, `testcon "A" 1 2`, `testcon "A" "A"`, `testcon 1 "A"`, "testint", "testint 1", "testint 1 2 3", `testint "A" 1`, `testint 1 "A"`, "fail", "fail 1 1", "unwind 0", "Push 0", "PUSH 0", "push0", "evalu", "eva", "unwin", "unwindx", "unwind,", "(unwind)", "globa", `globall "g" 0`, "", `global`, `global "g"`, `"eval"`,
	} {
		if s != "" {
			l = append(l, `shape "A" 0 global "f" 0 `+s, `shape "A" 0 global "f" 0 eval `+s+` eval global "g" 0`)
		}
	}
	for _, s := range l {
		checkRead(t, s, api.ErrCodeText)
		if _, e := plainRead(s); e != api.ErrCodeText {
			t.Errorf("the second form of Read(%s): %v", s, e)
		}
	}
}

// TestBrokenOff: P17.3: texts that break off anywhere.
func TestBrokenOff(t *testing.T) {
	fine := 0
	for i := range len(whole) + 1 {
		want, e := plainRead(whole[:i])
		checkRead(t, whole[:i], e)
		if x, _ := code.Read(whole[:i]); !alike(x, want) {
			t.Errorf("Read(%s): %v", whole[:i], x)
		}
		if e == api.OK {
			fine++
		}
		if i > 0 && whole[i-1] == '\n' && e != api.OK && !strings.Contains(whole[:i], `glob "g`) {
			t.Errorf("Read(%s): %v", whole[:i], e)
		}
	}
	if fine < 60 || fine > 90 {
		t.Error(fine, "beginnings are a table's")
	}
}

// TestSigns: P17.2: which byte is a blank, may stand in a word and in a name, and may be marked in it.
func TestSigns(t *testing.T) {
	for i := range 256 {
		b := string([]byte{byte(i)})
		want := api.ErrCodeText
		if strings.Contains(" \t\n\r", b) {
			want = api.OK
		}
		checkRead(t, "global"+b+`"f"`+b+"0"+b+"eval", want)
		checkRead(t, `global "f" 0 eval`+b+"eval", want)
		checkRead(t, `global "f" 0 eval `+b, want)
		if b != `"` { // of two names neither is an instruction
			checkRead(t, b+`shape "f" 0`, want)
		}
		want = api.ErrCodeText
		if 32 <= i && i <= 126 && b != `"` && b != `\` {
			want = api.OK
		}
		checkRead(t, `global "`+b+`" 0`, want)
		checkRead(t, `global "x`+b+`y" 0`, want)
		if x, e := code.Read(`global "x` + b + `y" 0`); e == api.OK && x.Globals[0].Name != "x"+b+"y" {
			t.Errorf("%q: %v", b, x)
		}
		want = api.ErrCodeText
		if b == `"` || b == `\` {
			want = api.OK
		}
		checkRead(t, `global "x\`+b+`y" 0`, want)
		if x, e := code.Read(`global "x\` + b + `y" 0`); e == api.OK && x.Globals[0].Name != "x"+b+"y" {
			t.Errorf("%q: %v", b, x)
		}
	}
}
