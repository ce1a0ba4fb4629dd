package compile_test

import (
	"fmt"
	"reflect"
	"slices"
	"strings"
	"testing"
	"time"

	"sloth/api"
	"sloth/code"
	"sloth/compile"
	"sloth/core"
	"sloth/lift"
	"sloth/types"
)

// seven is the text of the shapes with which every table begins.
const seven = `shape "False" 0 shape "True" 0 shape "Unit" 0 shape "Nil" 0 shape "Cons" 2 shape "Pair" 2 shape "Triple" 3 `

func short(s string) string {
	if len(s) > 3000 {
		s = s[:1500] + " .. " + s[len(s)-1500:]
	}
	return s
}

// printed writes a right program.
func printed(p api.Program) string {
	s, e := core.Print(p)
	if e != api.OK {
		return fmt.Sprintf("%v of %d definitions", e, len(p.Defs))
	}
	return short(s)
}

// shown writes a table.
func shown(x api.Table) string {
	s, e := code.Print(x)
	if e != api.OK {
		return fmt.Sprint(e, " of ", short(fmt.Sprint(x)))
	}
	return short(s)
}

// raw reads a program that need not be right.
func raw(t *testing.T, text string) api.Program {
	t.Helper()
	p, e := core.Read(text)
	if e != api.OK {
		t.Fatalf("the test is wrong: %s: %v", short(text), e)
	}
	return p
}

// read reads a lifted program.
func read(t *testing.T, text string) api.Program {
	t.Helper()
	p := raw(t, text)
	if !lift.Lifted(p) {
		t.Fatalf("the test is wrong: %s: %v", short(text), core.Check(p))
	}
	return p
}

// table reads the table of the seven and a text.
func table(t *testing.T, text string) api.Table {
	t.Helper()
	x, e := code.Read(seven + text)
	if e != api.OK {
		t.Fatalf("the test is wrong: %s: %v", short(text), e)
	}
	return x
}

// alike: two tables are the same.
func alike(a, b api.Table) bool {
	return slices.Equal(a.Shapes, b.Shapes) && slices.EqualFunc(a.Globals, b.Globals, func(x, y api.Global) bool {
		return x.Name == y.Name && x.Arity == y.Arity && slices.Equal(x.Code, y.Code)
	})
}

// compiled is the table of what must not be refused; code.Check takes it (P18.3).
func compiled(t *testing.T, p api.Program) api.Table {
	t.Helper()
	x, e := compile.Compile(p)
	if e != api.OK {
		t.Fatalf("%s: %v", printed(p), e)
	}
	if e := code.Check(x); e != api.OK {
		t.Fatalf("%s\ncomes to\n%s\nof which Check says %v", printed(p), short(fmt.Sprint(x)), e)
	}
	return x
}

// checkTable: a program's text comes to the table of a text.
func checkTable(t *testing.T, text, want string) {
	t.Helper()
	got, w := compiled(t, read(t, text)), table(t, want)
	if !alike(got, w) {
		t.Errorf("%s\ncomes to\n%s\nwant\n%s", short(text), shown(got), shown(w))
	}
}

// checkError: Compile answers that error, and an empty table beside every one.
func checkError(t *testing.T, what string, p api.Program, want api.Errno) {
	t.Helper()
	x, e := compile.Compile(p)
	if e != want {
		t.Errorf("%s: %v, want %v", short(what), e, want)
	}
	if e != api.OK && !reflect.DeepEqual(x, api.Table{}) {
		t.Errorf("%s: a table beside %v", short(what), e)
	}
}

// named tells the global of a name.
func named(t *testing.T, x api.Table, name string) api.Global {
	t.Helper()
	i := slices.IndexFunc(x.Globals, func(g api.Global) bool { return g.Name == name })
	if i < 0 {
		t.Fatalf("no global %s in\n%s", short(name), shown(x))
	}
	return x.Globals[i]
}

// names tells those of all globals.
func names(x api.Table) []string {
	var l []string
	for _, g := range x.Globals {
		l = append(l, g.Name)
	}
	return l
}

// soon: what it does takes no longer than work of such a size may.
func soon(t *testing.T, what string, do func()) {
	t.Helper()
	begin := time.Now()
	do()
	if d := time.Since(begin); d > 20*time.Second {
		t.Errorf("%s: %v", what, d)
	}
}

// The words of programs' texts.

const (
	list = "(List Int)"
	none = `(con "Nil" Int)`
)

// fn writes a definition: its parameters with their types, one a comma.
func fn(name, params, result, body string) string {
	t := result
	for _, p := range slices.Backward(strings.FieldsFunc(params, func(r rune) bool { return r == ',' })) {
		called, of, _ := strings.Cut(strings.TrimSpace(p), " ")
		t = "(" + of + " -> " + t + ")"
		body = `(lam "` + called + `" ` + of + " " + body + ")"
	}
	return `(def "` + name + `" () ` + t + " " + body + ")\n"
}

func app(f string, args ...string) string {
	for _, a := range args {
		f = "(app " + f + " " + a + ")"
	}
	return f
}

func global(name string, args ...string) string { return app(`(global "`+name+`")`, args...) }

func cons(head, tail string) string { return app(`(con "Cons" Int)`, head, tail) }

func op(name, a, b string) string { return "(op " + name + " " + a + " " + b + ")" }

func seq(a, b string) string { return "(seq " + a + " " + b + ")" }

// numbers writes a text so many times, with the number of each in the place of # and the next one in that of @.
func numbers(n int, text string) string {
	var b strings.Builder
	for i := range n {
		b.WriteString(strings.NewReplacer("#", fmt.Sprint(i), "@", fmt.Sprint(i+1)).Replace(text))
	}
	return b.String()
}

// nested writes texts within one another, so many times: what stands ahead (numbered), what is innermost, what stands behind.
func nested(n int, ahead, inner, behind string) string {
	return numbers(n, ahead) + inner + strings.Repeat(behind, n)
}

// each writes so many texts, numbered.
func each(n int, text string) []string {
	l := make([]string, n)
	for i := range l {
		l[i] = strings.ReplaceAll(text, "#", fmt.Sprint(i))
	}
	return l
}

// sum writes a sum of texts, which stand in it in their order, as flat as may be.
func sum(l ...string) string {
	if len(l) == 1 {
		return l[0]
	}
	half := len(l) / 2
	return op("+", sum(l[:half]...), sum(l[half:]...))
}

func typ(text string) api.Type {
	t, e := types.Read(text)
	if e != api.OK {
		panic("no type: " + text)
	}
	return t
}

var integer = api.Type{Kind: api.TyInt}

func number(n int) api.Expr { return api.Expr{Kind: api.ExprInt, Num: n} }

// codes tells the globals of a table by their names: how many arguments they have, and their instructions.
func codes(t *testing.T, x api.Table) map[string]string {
	t.Helper()
	s, e := code.Print(x)
	if e != api.OK {
		t.Fatal(e)
	}
	made, name := map[string]string{}, ""
	for _, line := range strings.Split(s, "\n") {
		if rest, isGlobal := strings.CutPrefix(line, `global "`); isGlobal {
			at := strings.LastIndex(rest, `"`)
			name = rest[:at]
			made[name] = rest[at+2:]
		} else if strings.HasPrefix(line, "  ") {
			made[name] += " " + line[2:]
		}
	}
	return made
}

// checkCodes: of a program's text come just these globals: name and code by turns.
func checkCodes(t *testing.T, text string, want ...string) {
	t.Helper()
	got := codes(t, compiled(t, read(t, text)))
	for i := 0; i < len(want); i += 2 {
		if got[want[i]] != strings.TrimSpace(want[i+1]) {
			t.Errorf("%s: %s is\n%s\nwant\n%s", short(text), want[i], got[want[i]], want[i+1])
		}
		delete(got, want[i])
	}
	if len(got) > 0 {
		t.Errorf("%s: beside that: %v", short(text), got)
	}
}
