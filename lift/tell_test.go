package lift_test

import (
	"fmt"
	"strings"
	"testing"
	"time"

	"sloth/api"
	"sloth/core"
	"sloth/lift"
	"sloth/meaning"
	"sloth/types"
)

func short(s string) string {
	if len(s) > 3000 {
		s = s[:1500] + " .. " + s[len(s)-1500:]
	}
	return s
}

// printed writes a right program.
func printed(p api.Program) string {
	s, code := core.Print(p)
	if code != api.OK {
		return fmt.Sprintf("%v of %d definitions", code, len(p.Defs))
	}
	return short(s)
}

// read reads a right program.
func read(t *testing.T, text string) api.Program {
	t.Helper()
	p, code := core.Read(text)
	if code == api.OK {
		code = core.Check(p)
	}
	if code != api.OK {
		t.Fatalf("the test is wrong: %s: %v", short(text), code)
	}
	return p
}

// alike: two programs are the same, names of locals too.
func alike(p, q api.Program) bool { return fmt.Sprint(p) == fmt.Sprint(q) }

// lifted lifts what must not be refused; the answer is right, Lifted, and stays as it is when it is lifted again (P13.3).
func lifted(t *testing.T, p api.Program) api.Program {
	t.Helper()
	q, code := lift.Lift(p)
	if code != api.OK {
		t.Fatalf("%s: %v", printed(p), code)
	}
	if code := core.Check(q); code != api.OK || !lift.Lifted(q) || lambdasWithin(q) > 0 {
		t.Fatalf("%s\ncomes to\n%s: Check says %v, Lifted %v, with %d lambdas within", printed(p), printed(q), code, lift.Lifted(q), lambdasWithin(q))
	}
	if again, code := lift.Lift(q); code != api.OK || !alike(again, q) {
		t.Fatalf("%s\ncomes to\n%s\nand that to %v\n%s", printed(p), printed(q), code, printed(again))
	}
	return q
}

// parts tells the Values, Args and Bodies of an expression, in that order.
func parts(e api.Expr) []api.Expr {
	var l []api.Expr
	for _, b := range e.Binds {
		if e.Kind != api.ExprLam {
			l = append(l, b.Value)
		}
	}
	l = append(l, e.Args...)
	for _, a := range e.Alts {
		l = append(l, a.Body)
	}
	return l
}

// arity tells how many lambdas stand at an expression's beginning, and what stands within them.
func arity(e api.Expr) (int, api.Expr) {
	n := 0
	for e.Kind == api.ExprLam {
		e = e.Args[0]
		n++
	}
	return n, e
}

// lambdasWithin counts the lambdas that are none of the own ones of a definition.
func lambdasWithin(p api.Program) int {
	n := 0
	for _, d := range p.Defs {
		_, body := arity(d.Body)
		n += count(body, api.ExprLam)
	}
	return n
}

// count counts the expressions of a kind.
func count(e api.Expr, kind int) int {
	n := 0
	if e.Kind == kind {
		n++
	}
	for _, x := range parts(e) {
		n += count(x, kind)
	}
	return n
}

// checkLifted: a text comes to just what is wanted, names of locals too.
func checkLifted(t *testing.T, text, want string) {
	t.Helper()
	p := read(t, text)
	q, w := lifted(t, p), read(t, want)
	if !alike(q, w) {
		t.Errorf("%s\ncomes to\n%s\nwant\n%s", printed(p), printed(q), printed(w))
	}
	if lift.Lifted(p) != alike(p, w) {
		t.Errorf("Lifted says %v of %s", lift.Lifted(p), printed(p))
	}
}

// checkNames: the answer's definitions have these names, in this order.
func checkNames(t *testing.T, text, want string) {
	t.Helper()
	p := read(t, text)
	if got := names(lifted(t, p)); got != want {
		t.Errorf("%s: %s, want %s", printed(p), got, want)
	}
}

func names(p api.Program) string {
	l := make([]string, len(p.Defs))
	for i, d := range p.Defs {
		l[i] = d.Name
	}
	return strings.Join(l, " ")
}

// checkCode: Lift answers that error, and an empty program beside every one.
func checkCode(t *testing.T, what string, p api.Program, want api.Errno) {
	t.Helper()
	q, code := lift.Lift(p)
	if code != want {
		t.Errorf("%s: %v, want %v", what, code, want)
	}
	if code != api.OK && (q.Datas != nil || q.Defs != nil) {
		t.Errorf("%s: a program beside %v", what, code)
	}
}

// run runs what must not be refused.
func run(t *testing.T, p api.Program, entry string, input []int, fuel int) api.Outcome {
	t.Helper()
	o, code := meaning.Run(p, entry, input, fuel)
	if code != api.OK {
		t.Fatalf("Run(%s, %d numbers, %d): %v\n%s", entry, len(input), fuel, code, printed(p))
	}
	return o
}

// ending tells in a word how an outcome ended.
func ending(o api.Outcome) string {
	switch o.Kind {
	case api.Done:
		return "done"
	case api.OutOfFuel:
		return "fuel"
	case api.Stuck:
		return map[int]string{api.StuckStop: "stop", api.StuckMatch: "match", api.StuckZero: "zero", api.StuckLoop: "loop"}[o.Stuck]
	}
	return "?"
}

// told writes an outcome: how it ended, and what was told.
func told(o api.Outcome) string {
	s := ending(o)
	for _, x := range o.Told {
		if x.Con == "" {
			s += fmt.Sprint(" ", x.Num)
		} else {
			s += " " + x.Con
		}
	}
	return s
}

// soon: what it does takes no longer than work of such a size may.
func soon(t *testing.T, what string, do func()) {
	t.Helper()
	done := make(chan struct{})
	go func() {
		defer close(done)
		do()
	}()
	select {
	case <-done:
	case <-time.After(time.Minute):
		t.Fatal("too long:", what)
	}
}

// numbers writes a text so many times, with the number of each in the place of # and the next one in that of @.
func numbers(n int, text string) string {
	var b strings.Builder
	for i := range n {
		b.WriteString(strings.NewReplacer("#", fmt.Sprint(i), "@", fmt.Sprint(i+1)).Replace(text))
	}
	return b.String()
}

// nested writes texts within one another, so many times: what stands ahead (numbered), what is innermost, what stands behind.
func nested(n int, ahead, inner, behind string) string {
	return numbers(n, ahead) + inner + strings.Repeat(behind, n)
}

// lists writes a type of so many nodes: lists of lists of numbers.
func lists(nodes int) string {
	return strings.Repeat("(List ", nodes-1) + "Int" + strings.Repeat(")", nodes-1)
}

// arrows writes the type of functions of so many numbers to something.
func arrows(n int, to string) string { return nested(n, "(Int -> ", to, ")") }

// lams writes so many lambdas of numbers, named by a letter and a number, around a body.
func lams(n int, letter, body string) string { return nested(n, `(lam "`+letter+`#" Int `, body, ")") }

// sum writes a sum of texts, which stand in it in their order, as flat as may be.
func sum(l ...string) string {
	if len(l) == 1 {
		return l[0]
	}
	half := len(l) / 2
	return "(op + " + sum(l[:half]...) + " " + sum(l[half:]...) + ")"
}

// each writes so many texts, numbered.
func each(n int, text string) []string {
	l := make([]string, n)
	for i := range l {
		l[i] = strings.NewReplacer("#", fmt.Sprint(i), "@", fmt.Sprint(i+1)).Replace(text)
	}
	return l
}

// def writes a definition of a number.
func def(name, body string) string { return `(def "` + name + `" () Int ` + body + `)` }

// fun writes a definition of a function of a number to a number.
func fun(name, body string) string { return `(def "` + name + `" () (Int -> Int) ` + body + `)` }

func typ(text string) api.Type {
	t, code := types.Read(text)
	if code != api.OK {
		panic("no type: " + text)
	}
	return t
}

var integer = api.Type{Kind: api.TyInt}

func number(n int) api.Expr { return api.Expr{Kind: api.ExprInt, Num: n} }
