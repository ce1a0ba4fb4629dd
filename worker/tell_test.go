package worker_test

import (
	"fmt"
	"slices"
	"strings"
	"testing"
	"time"

	"sloth/api"
	"sloth/core"
	"sloth/lift"
	"sloth/meaning"
	"sloth/strict"
	"sloth/types"
	"sloth/worker"
)

func short(s string) string {
	if len(s) > 3000 {
		s = s[:1500] + " .. " + s[len(s)-1500:]
	}
	return s
}

// printed writes a right program.
func printed(p api.Program) string {
	s, code := core.Print(p)
	if code != api.OK {
		return fmt.Sprintf("%v of %d definitions", code, len(p.Defs))
	}
	return short(s)
}

// raw reads a program that need not be right.
func raw(t *testing.T, text string) api.Program {
	t.Helper()
	p, code := core.Read(text)
	if code != api.OK {
		t.Fatalf("the test is wrong: %s: %v", short(text), code)
	}
	return p
}

// read reads a lifted program.
func read(t *testing.T, text string) api.Program {
	t.Helper()
	p := raw(t, text)
	if !lift.Lifted(p) {
		t.Fatalf("the test is wrong: %s: %v", short(text), core.Check(p))
	}
	return p
}

// alike: two programs are the same, names of locals too.
func alike(p, q api.Program) bool { return fmt.Sprint(p) == fmt.Sprint(q) }

// same: two programs are the same but for names of locals.
func same(t *testing.T, p, q api.Program) bool {
	t.Helper()
	is, code := core.Same(p, q)
	if code != api.OK {
		t.Fatalf("%v: %s\n%s", code, printed(p), printed(q))
	}
	return is
}

// split is what must not be refused; the answer is right and Lifted (P16.3).
func split(t *testing.T, p api.Program) api.Program {
	t.Helper()
	q, code := worker.Split(p)
	if code != api.OK {
		t.Fatalf("%s: %v", printed(p), code)
	}
	if code := core.Check(q); code != api.OK || !lift.Lifted(q) {
		t.Fatalf("%s\ncomes to\n%v: Check says %v, Lifted %v", printed(p), short(fmt.Sprint(q)), code, lift.Lifted(q))
	}
	return q
}

// checkSplit: a text comes to what is wanted; where that is the text itself, names of locals stay too (P16.5).
func checkSplit(t *testing.T, text, want string) {
	t.Helper()
	p, w := read(t, text), read(t, want)
	q := split(t, p)
	if len(q.Defs) != len(w.Defs) || text == want && !alike(q, p) {
		t.Fatalf("%s\ncomes to\n%s\nwant\n%s", printed(p), printed(q), printed(w))
	}
	if same(t, q, w) {
		return
	}
	for i, d := range w.Defs {
		one := w
		one.Defs = slices.Clone(w.Defs)
		if one.Defs[i] = q.Defs[i]; !same(t, one, w) {
			only := func(d api.Def) string { return printed(api.Program{Defs: []api.Def{d}}) }
			t.Fatalf("%s\ncomes to\n%s\nwant\n%s", only(p.Defs[i]), only(q.Defs[i]), only(d))
		}
	}
	t.Errorf("%s\ncomes to\n%s\nwant\n%s", printed(p), printed(q), printed(w))
}

// checkCode: Split answers that error, and an empty program beside every one.
func checkCode(t *testing.T, what string, p api.Program, want api.Errno) {
	t.Helper()
	q, code := worker.Split(p)
	if code != want {
		t.Errorf("%s: %v, want %v", short(what), code, want)
	}
	if code != api.OK && (q.Datas != nil || q.Defs != nil) {
		t.Errorf("%s: a program beside %v", short(what), code)
	}
}

// checkNumbers: the signature of a definition of a text is as a test wants to have it; "?", if it is not Known.
func checkNumbers(t *testing.T, text, name, want string) {
	t.Helper()
	l, code := strict.Analyse(read(t, text))
	if code != api.OK {
		t.Fatal(code)
	}
	s := l[slices.IndexFunc(l, func(s api.Signature) bool { return s.Name == name })]
	got := strings.Trim(fmt.Sprint(s.Args), "[]")
	if !s.Known {
		got = "?"
	}
	if got != want {
		t.Fatalf("the test is wrong: %s: %s, want %s", name, got, want)
	}
}

// parts tells the Values, Args and Bodies of an expression, in that order.
func parts(e api.Expr) []api.Expr {
	var l []api.Expr
	for _, b := range e.Binds {
		if e.Kind != api.ExprLam {
			l = append(l, b.Value)
		}
	}
	l = append(l, e.Args...)
	for _, a := range e.Alts {
		l = append(l, a.Body)
	}
	return l
}

// kinds counts the expressions of each kind.
func kinds(p api.Program) map[int]int {
	count := map[int]int{}
	var walk func(e api.Expr)
	walk = func(e api.Expr) {
		count[e.Kind]++
		for _, x := range parts(e) {
			walk(x)
		}
	}
	for _, d := range p.Defs {
		walk(d.Body)
	}
	return count
}

// depth tells how deep an expression is.
func depth(e api.Expr) int {
	n := 0
	for _, x := range parts(e) {
		n = max(n, depth(x))
	}
	return n + 1
}

// deepest tells how deep the deepest expression of a program is.
func deepest(p api.Program) int {
	n := 0
	for _, d := range p.Defs {
		n = max(n, depth(d.Body))
	}
	return n
}

// nodes counts the nodes of a type.
func nodes(t api.Type) int {
	n := 1
	for _, a := range t.Args {
		n += nodes(a)
	}
	return n
}

// run runs what must not be refused.
func run(t *testing.T, p api.Program, entry string, input []int, fuel int) api.Outcome {
	t.Helper()
	o, code := meaning.Run(p, entry, input, fuel)
	if code != api.OK {
		t.Fatalf("Run(%s, %d numbers, %d): %v\n%s", entry, len(input), fuel, code, printed(p))
	}
	return o
}

// ending tells in a word how an outcome ended.
func ending(o api.Outcome) string {
	switch o.Kind {
	case api.Done:
		return "done"
	case api.OutOfFuel:
		return "fuel"
	case api.Stuck:
		return map[int]string{api.StuckStop: "stop", api.StuckMatch: "match", api.StuckZero: "zero", api.StuckLoop: "loop"}[o.Stuck]
	}
	return "?"
}

// told writes an outcome: how it ended, and what was told.
func told(o api.Outcome) string {
	s := ending(o)
	for _, x := range o.Told {
		if x.Con == "" {
			s += fmt.Sprint(" ", x.Num)
		} else {
			s += " " + x.Con
		}
	}
	return s
}

// soon: what it does takes no longer than work of such a size may.
func soon(t *testing.T, what string, do func()) {
	t.Helper()
	done := make(chan struct{})
	go func() {
		defer close(done)
		do()
	}()
	select {
	case <-done:
	case <-time.After(time.Minute):
		t.Fatal("too long:", what)
	}
}

// The words of programs' texts.

const (
	list    = "(List Int)"
	none    = `(con "Nil" Int)`
	yes     = `(con "True")`
	unknown = "(Int -> ((List Int) -> (List Int)))" // a type without elements
)

// fn writes a definition: its parameters with their types, one a comma.
func fn(name, params, result, body string) string {
	t := result
	for _, p := range slices.Backward(strings.FieldsFunc(params, func(r rune) bool { return r == ',' })) {
		called, of, _ := strings.Cut(strings.TrimSpace(p), " ")
		t = "(" + of + " -> " + t + ")"
		body = `(lam "` + called + `" ` + of + " " + body + ")"
	}
	return `(def "` + name + `" () ` + t + " " + body + ")\n"
}

func app(f string, args ...string) string {
	for _, a := range args {
		f = "(app " + f + " " + a + ")"
	}
	return f
}

func global(name string, args ...string) string { return app(`(global "`+name+`")`, args...) }

func fail(t string) string { return "(fail 1 " + t + ")" }

func cons(head, tail string) string { return app(`(con "Cons" Int)`, head, tail) }

func op(name, a, b string) string { return "(op " + name + " " + a + " " + b + ")" }

func seq(a, b string) string { return "(seq " + a + " " + b + ")" }

func hard(name, t, value, body string) string {
	return `(hard "` + name + `" ` + t + " " + value + " " + body + ")"
}

// numbers writes a text so many times, with the number of each in the place of # and the next one in that of @.
func numbers(n int, text string) string {
	var b strings.Builder
	for i := range n {
		b.WriteString(strings.NewReplacer("#", fmt.Sprint(i), "@", fmt.Sprint(i+1)).Replace(text))
	}
	return b.String()
}

// nested writes texts within one another, so many times: what stands ahead (numbered), what is innermost, what stands behind.
func nested(n int, ahead, inner, behind string) string {
	return numbers(n, ahead) + inner + strings.Repeat(behind, n)
}

// each writes so many texts, numbered.
func each(n int, text string) []string {
	l := make([]string, n)
	for i := range l {
		l[i] = strings.ReplaceAll(text, "#", fmt.Sprint(i))
	}
	return l
}

// sum writes a sum of texts, which stand in it in their order, as flat as may be.
func sum(l ...string) string {
	if len(l) == 1 {
		return l[0]
	}
	half := len(l) / 2
	return op("+", sum(l[:half]...), sum(l[half:]...))
}

// lists writes a type of so many nodes: lists of lists of numbers.
func lists(nodes int) string {
	return strings.Repeat("(List ", nodes-1) + "Int" + strings.Repeat(")", nodes-1)
}

func typ(text string) api.Type {
	t, code := types.Read(text)
	if code != api.OK {
		panic("no type: " + text)
	}
	return t
}

var integer = api.Type{Kind: api.TyInt}

func number(n int) api.Expr { return api.Expr{Kind: api.ExprInt, Num: n} }

// library has definitions that need their arguments in all ways, and some that need nothing. No argument in it is worked out first that is not already.
const library = `
(def "add" () (Int -> (Int -> Int)) (lam "x" Int (lam "y" Int (op + "x" "y"))))
(def "k" () (Int -> (Int -> Int)) (lam "x" Int (lam "y" Int "x")))
(def "g" () (Int -> Int) (lam "x" Int 5))
(def "id" () (Int -> Int) (lam "x" Int "x"))
(def "loop" () (Int -> Int) (lam "x" Int (app (global "loop") "x")))
(def "fac" () (Int -> Int) (lam "n" Int (case (op <= "n" 0) (con "True" () 1) (con "False" () (hard "k" Int (op - "n" 1) (op * "n" (app (global "fac") "k")))))))
(def "head" () ((List Int) -> Int) (lam "l" (List Int) (case "l" (con "Cons" ("x" "t") "x"))))
(def "len" () ((List Int) -> Int) (lam "l" (List Int) (case "l" (con "Nil" () 0) (con "Cons" ("x" "t") (op + 1 (app (global "len") "t"))))))
(def "sum" () ((List Int) -> Int) (lam "l" (List Int) (case "l" (con "Nil" () 0) (con "Cons" ("x" "t") (op + "x" (app (global "sum") "t"))))))
(def "never" () ((List Int) -> Int) (lam "l" (List Int) (fail 1 Int)))
(def "not" () (Bool -> Bool) (lam "b" Bool (case "b" (con "True" () (con "False")) (else (con "True")))))
(def "fst" () ((Pair Int Int) -> Int) (lam "p" (Pair Int Int) (case "p" (con "Pair" ("x" "y") "x"))))
(def "from" () (Int -> (List Int)) (lam "n" Int (app (app (con "Cons" Int) "n") (app (global "from") (op + "n" 1)))))
(def "rev" () ((List Int) -> ((List Int) -> (List Int))) (lam "l" (List Int) (lam "a" (List Int) (case "l" (con "Nil" () "a") (con "Cons" ("x" "t") (app (app (global "rev") "t") (app (app (con "Cons" Int) "x") "a")))))))
(def "take" () (Int -> ((List Int) -> (List Int))) (lam "n" Int (lam "l" (List Int) (case (op <= "n" 0) (con "True" () (con "Nil" Int)) (else (case "l" (con "Nil" () "l") (con "Cons" ("x" "t") (app (app (con "Cons" Int) "x") (app (app (global "take") (op - "n" 1)) "t")))))))))
(def "map" () ((Int -> Int) -> ((List Int) -> (List Int))) (lam "f" (Int -> Int) (lam "l" (List Int) (case "l" (con "Nil" () "l") (con "Cons" ("x" "t") (app (app (con "Cons" Int) (app "f" "x")) (app (app (global "map") "f") "t")))))))
(def "ap" () ((Int -> Int) -> (Int -> Int)) (lam "f" (Int -> Int) (lam "x" Int (app "f" "x"))))
(def "part" () (Int -> (Int -> Int)) (lam "x" Int (app (global "add") "x")))
(def "plus" () (Int -> (Int -> Int)) (global "add"))
(def "seven" () Int 7)
`
