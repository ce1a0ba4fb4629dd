package strict_test

import (
	"fmt"
	"slices"
	"strings"
	"testing"
	"time"

	"sloth/api"
	"sloth/core"
	"sloth/lift"
	"sloth/strict"
	"sloth/types"
)

func short(s string) string {
	if len(s) > 3000 {
		s = s[:1500] + " .. " + s[len(s)-1500:]
	}
	return s
}

// printed writes a right program.
func printed(p api.Program) string {
	s, code := core.Print(p)
	if code != api.OK {
		return fmt.Sprintf("%v of %d definitions", code, len(p.Defs))
	}
	return short(s)
}

// read reads a lifted program.
func read(t *testing.T, text string) api.Program {
	t.Helper()
	p, code := core.Read(text)
	if code == api.OK {
		code = core.Check(p)
	}
	if code != api.OK || !lift.Lifted(p) {
		t.Fatalf("the test is wrong: %s: %v", short(text), code)
	}
	return p
}

// analysed is what must not be refused: a signature for each definition, in their order, with a number for each parameter.
func analysed(t *testing.T, p api.Program) []api.Signature {
	t.Helper()
	l, code := strict.Analyse(p)
	if code != api.OK || len(l) != len(p.Defs) {
		t.Fatalf("%s: %v, %d signatures", printed(p), code, len(l))
	}
	for i, s := range l {
		if s.Name != p.Defs[i].Name || len(s.Args) != arity(p.Defs[i].Body) {
			t.Fatalf("%s: %v", printed(p), l)
		}
	}
	return l
}

// arity tells how many lambdas stand at an expression's beginning.
func arity(e api.Expr) int {
	n := 0
	for ; e.Kind == api.ExprLam; e = e.Args[0] {
		n++
	}
	return n
}

// told writes a signature: its numbers, or that it is not known.
func told(s api.Signature) string {
	if !s.Known {
		return "?"
	}
	return strings.Trim(fmt.Sprint(s.Args), "[]")
}

// tellAll writes all signatures.
func tellAll(l []api.Signature) string {
	made := make([]string, len(l))
	for i, s := range l {
		made[i] = s.Name + ": " + told(s)
	}
	return strings.Join(made, "; ")
}

// checkAll: the signatures of a program, written so.
func checkAll(t *testing.T, text, want string) {
	t.Helper()
	if got := tellAll(analysed(t, read(t, text))); got != want {
		t.Errorf("%s\n%s, want %s", short(text), got, want)
	}
}

// checkFirst: the signature of a program's first definition.
func checkFirst(t *testing.T, text, want string) {
	t.Helper()
	if got := told(analysed(t, read(t, text))[0]); got != want {
		t.Errorf("%s: %s, want %s", short(text), got, want)
	}
}

// checkCode: Analyse answers that error, and nothing beside it.
func checkCode(t *testing.T, what string, p api.Program, want api.Errno) {
	t.Helper()
	l, code := strict.Analyse(p)
	if code != want || code != api.OK && l != nil {
		t.Errorf("%s: %v %v, want %v", short(what), l, code, want)
	}
}

// The words of programs' texts.

const list = "(List Int)"

// fn writes a definition: its parameters with their types, one a comma.
func fn(name, params, result, body string) string {
	t := result
	for _, p := range slices.Backward(strings.FieldsFunc(params, func(r rune) bool { return r == ',' })) {
		called, of, _ := strings.Cut(strings.TrimSpace(p), " ")
		t = "(" + of + " -> " + t + ")"
		body = `(lam "` + called + `" ` + of + " " + body + ")"
	}
	return `(def "` + name + `" () ` + t + " " + body + ")\n"
}

func app(f string, args ...string) string {
	for _, a := range args {
		f = "(app " + f + " " + a + ")"
	}
	return f
}

func global(name string, args ...string) string { return app(`(global "`+name+`")`, args...) }

func fail(t string) string { return "(fail 1 " + t + ")" }

func cons(head, tail string) string { return app(`(con "Cons" Int)`, head, tail) }

func seq(a, b string) string { return "(seq " + a + " " + b + ")" }

const (
	none = `(con "Nil" Int)`
	yes  = `(con "True")`
)

// listOf writes a list of numbers that comes to that element.
func listOf(element int) string {
	return []string{fail(list), cons("1", fail(list)), cons(fail("Int"), none), cons("1", none)}[element]
}

// numberOf writes a number that comes to that element.
func numberOf(element int) string { return []string{fail("Int"), "1"}[element] }

// library has what tells the elements of lists apart, and some functions more.
const library = `
(def "len" () ((List Int) -> Int) (lam "l" (List Int) (case "l" (con "Nil" () 0) (con "Cons" ("x" "t") (op + 1 (app (global "len") "t"))))))
(def "sum" () ((List Int) -> Int) (lam "l" (List Int) (case "l" (con "Nil" () 0) (con "Cons" ("x" "t") (op + "x" (app (global "sum") "t"))))))
(def "head" () ((List Int) -> Int) (lam "l" (List Int) (case "l" (con "Cons" ("x" "t") "x"))))
(def "add" () (Int -> (Int -> Int)) (lam "x" Int (lam "y" Int (op + "x" "y"))))
(def "const" () (Int -> (Int -> Int)) (lam "x" Int (lam "y" Int "x")))
(def "id" () (Int -> Int) (lam "x" Int "x"))
(def "one" () (Int -> Int) (lam "x" Int 1))
(def "ap" () ((Int -> Int) -> (Int -> Int)) (lam "f" (Int -> Int) (lam "x" Int (app "f" "x"))))
`

// element tells what an expression, of a type that is Int, a list of numbers or another data type, comes to, where the library and some more definitions are there: a definition of something that nobody needs is asked whether it comes to nothing in any case.
func element(t *testing.T, typ, body string, defs ...string) int {
	t.Helper()
	uses := []string{seq(body, "1")}
	if typ == list {
		uses = append(uses, global("len", body), global("sum", body))
	}
	text := ""
	for i, use := range uses {
		text += fn(fmt.Sprint("probe", i), "nobody Int", "Int", use)
	}
	l := analysed(t, read(t, text+library+strings.Join(defs, "")))
	found := 0
	for i := range uses {
		switch {
		case !l[i].Known:
			t.Fatalf("%s is not known", body)
		case l[i].Args[0] == 0 && found == i:
			found++
		case l[i].Args[0] != 2:
			t.Fatalf("%s comes to no element: %s", body, tellAll(l))
		}
	}
	return found
}

// checkElement: what an expression comes to.
func checkElement(t *testing.T, typ, body string, want int, defs ...string) {
	t.Helper()
	if got := element(t, typ, body, defs...); got != want {
		t.Errorf("%s comes to %d, want %d", short(body), got, want)
	}
}

// soon: what it does takes no longer than work of such a size may.
func soon(t *testing.T, what string, do func()) {
	t.Helper()
	done := make(chan struct{})
	go func() {
		defer close(done)
		do()
	}()
	select {
	case <-done:
	case <-time.After(time.Minute):
		t.Fatal("too long:", what)
	}
}

// numbers writes a text so many times, with the number of each in the place of # and the next one in that of @.
func numbers(n int, text string) string {
	var b strings.Builder
	for i := range n {
		b.WriteString(strings.NewReplacer("#", fmt.Sprint(i), "@", fmt.Sprint(i+1)).Replace(text))
	}
	return b.String()
}

// nested writes texts within one another, so many times: what stands ahead (numbered), what is innermost, what stands behind.
func nested(n int, ahead, inner, behind string) string {
	return numbers(n, ahead) + inner + strings.Repeat(behind, n)
}

func typ(text string) api.Type {
	t, code := types.Read(text)
	if code != api.OK {
		panic("no type: " + text)
	}
	return t
}

var integer = api.Type{Kind: api.TyInt}

func number(n int) api.Expr { return api.Expr{Kind: api.ExprInt, Num: n} }
