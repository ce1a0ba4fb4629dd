package mono_test

import (
	"fmt"
	"strings"
	"testing"
	"time"

	"sloth/api"
	"sloth/core"
	"sloth/meaning"
	"sloth/mono"
	"sloth/types"
)

func short(s string) string {
	if len(s) > 3000 {
		s = s[:1500] + " .. " + s[len(s)-1500:]
	}
	return s
}

// printed writes a right program.
func printed(p api.Program) string {
	s, code := core.Print(p)
	if code != api.OK {
		return fmt.Sprintf("%v of %d definitions", code, len(p.Defs))
	}
	return short(s)
}

// read reads a right program.
func read(t *testing.T, text string) api.Program {
	t.Helper()
	p, code := core.Read(text)
	if code == api.OK {
		code = core.Check(p)
	}
	if code != api.OK {
		t.Fatalf("the test is wrong: %s: %v", short(text), code)
	}
	return p
}

// alike: two programs are the same, names of locals too.
func alike(p, q api.Program) bool { return fmt.Sprint(p) == fmt.Sprint(q) }

// made makes what must not be refused; the answer is right, and has neither parameters nor types of ExprGlobals (P12.4).
func made(t *testing.T, p api.Program, entry string) api.Program {
	t.Helper()
	q, code := mono.Mono(p, entry)
	if code != api.OK {
		t.Fatalf("%s of %s: %v", entry, printed(p), code)
	}
	if code := core.Check(q); code != api.OK {
		t.Fatalf("%s of %s: Check says %v", entry, printed(p), code)
	}
	for _, d := range q.Defs {
		if len(d.Params) > 0 || !isPlain(d.Body) {
			t.Fatalf("%s of %s: %s has parameters or types", entry, printed(p), d.Name)
		}
	}
	return q
}

func isPlain(e api.Expr) bool {
	if e.Kind == api.ExprGlobal {
		return len(e.Types) == 0
	}
	for _, x := range parts(e) {
		if !isPlain(x) {
			return false
		}
	}
	return true
}

// parts tells the Values, Args and Bodies of an expression, in that order.
func parts(e api.Expr) []api.Expr {
	var l []api.Expr
	for _, b := range e.Binds {
		l = append(l, b.Value)
	}
	l = append(l, e.Args...)
	for _, a := range e.Alts {
		l = append(l, a.Body)
	}
	return l
}

// checkMade: what a definition of a text needs is just what is wanted.
func checkMade(t *testing.T, text, entry, want string) {
	t.Helper()
	p := read(t, text)
	if q, w := made(t, p, entry), read(t, want); !alike(q, w) {
		t.Errorf("%s of\n%s\ncomes to\n%s\nwant\n%s", entry, printed(p), printed(q), printed(w))
	}
}

// checkNames: the answer's definitions have these names, in this order.
func checkNames(t *testing.T, text, entry, want string) {
	t.Helper()
	p := read(t, text)
	if got := names(made(t, p, entry)); got != want {
		t.Errorf("%s of %s: %s, want %s", entry, printed(p), got, want)
	}
}

func names(p api.Program) string {
	l := make([]string, len(p.Defs))
	for i, d := range p.Defs {
		l[i] = d.Name
	}
	return strings.Join(l, " ")
}

// checkCode: Mono answers that error, and an empty program beside every one.
func checkCode(t *testing.T, what string, p api.Program, entry string, want api.Errno) {
	t.Helper()
	q, code := mono.Mono(p, entry)
	if code != want {
		t.Errorf("%s: %v, want %v", what, code, want)
	}
	if code != api.OK && (q.Datas != nil || q.Defs != nil) {
		t.Errorf("%s: a program beside %v", what, code)
	}
}

// run runs what must not be refused.
func run(t *testing.T, p api.Program, entry string, input []int, fuel int) api.Outcome {
	t.Helper()
	o, code := meaning.Run(p, entry, input, fuel)
	if code != api.OK {
		t.Fatalf("Run(%s, %d numbers, %d): %v\n%s", entry, len(input), fuel, code, printed(p))
	}
	return o
}

// ending tells in a word how an outcome ended.
func ending(o api.Outcome) string {
	switch o.Kind {
	case api.Done:
		return "done"
	case api.OutOfFuel:
		return "fuel"
	case api.Stuck:
		return map[int]string{api.StuckStop: "stop", api.StuckMatch: "match", api.StuckZero: "zero", api.StuckLoop: "loop"}[o.Stuck]
	}
	return "?"
}

// told writes an outcome: how it ended, and what was told.
func told(o api.Outcome) string {
	s := ending(o)
	for _, x := range o.Told {
		if x.Con == "" {
			s += fmt.Sprint(" ", x.Num)
		} else {
			s += " " + x.Con
		}
	}
	return s
}

// soon: what it does takes no longer than work of such a size may.
func soon(t *testing.T, what string, do func()) {
	t.Helper()
	done := make(chan struct{})
	go func() {
		defer close(done)
		do()
	}()
	select {
	case <-done:
	case <-time.After(2 * time.Minute):
		t.Fatal("too long:", what)
	}
}

// numbers writes a text so many times, with the number of each in the place of # and the next one in that of $.
func numbers(n int, text string) string {
	var b strings.Builder
	for i := range n {
		b.WriteString(strings.NewReplacer("#", fmt.Sprint(i), "$", fmt.Sprint(i+1)).Replace(text))
	}
	return b.String()
}

// nested writes texts within one another, so many times: what stands ahead, what is innermost, what stands behind.
func nested(n int, ahead, inner, behind string) string {
	return strings.Repeat(ahead, n) + inner + strings.Repeat(behind, n)
}

// lists writes a type of so many nodes: lists of lists of numbers.
func lists(nodes int) string { return nested(nodes-1, "(List ", "Int", ")") }

// sum writes a sum of texts, which stand in it in their order, as flat as may be.
func sum(l ...string) string {
	if len(l) == 1 {
		return l[0]
	}
	half := len(l) / 2
	return "(op + " + sum(l[:half]...) + " " + sum(l[half:]...) + ")"
}

func times(n int, text string) []string {
	l := make([]string, n)
	for i := range l {
		l[i] = text
	}
	return l
}

// def writes a definition of a number, without parameters.
func def(name, body string) string { return `(def "` + name + `" () Int ` + body + `)` }

func typ(text string) api.Type {
	t, code := types.Read(text)
	if code != api.OK {
		panic("no type: " + text)
	}
	return t
}

var integer = api.Type{Kind: api.TyInt}

func number(n int) api.Expr { return api.Expr{Kind: api.ExprInt, Num: n} }
