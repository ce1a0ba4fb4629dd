package elab_test

import (
	"fmt"
	"strings"
	"testing"

	"sloth/api"
	"sloth/core"
	"sloth/elab"
)

func short(texts []string) string {
	s := strings.Join(texts, " | ")
	if len(s) > 1500 {
		s = s[:200] + " .. " + s[len(s)-100:]
	}
	return s
}

// told writes a program as core does.
func told(p api.Program) string {
	s, code := core.Print(p)
	if code != api.OK {
		return fmt.Sprint(code, " of ", p)
	}
	return s
}

// checkTaken: Elab takes these texts, and core.Check what it answers (P9.7).
func checkTaken(t *testing.T, texts ...string) api.Program {
	t.Helper()
	p, err := elab.Elab(texts)
	if err != nil {
		t.Errorf("Elab(%s): %v, want no error", short(texts), err)
	}
	if code := core.Check(p); code != api.OK {
		t.Errorf("Elab(%s): core.Check says %v", short(texts), code)
	}
	return p
}

func sameProgram(p, q api.Program) bool {
	same, code := core.Same(p, q)
	return same && code == api.OK
}

// checkTexts: of these texts comes the program that core reads of another one, but for the names of locals.
func checkTexts(t *testing.T, texts []string, want string) {
	t.Helper()
	p := checkTaken(t, texts...)
	q, code := core.Read(want)
	if code != api.OK || core.Check(q) != api.OK {
		t.Fatalf("the test is wrong: %s: %v, %v", want, code, core.Check(q))
	}
	if !sameProgram(p, q) {
		t.Errorf("Elab(%s):\n%s\nwant\n%s", short(texts), told(p), told(q))
	}
}

// check: of one module, M, whose declarations are given.
func check(t *testing.T, decls, want string) {
	t.Helper()
	checkTexts(t, []string{"module M; " + decls}, want)
}

// checkBody: of one module M with these declarations and a definition f, the last one, this type and body of f come.
func checkBody(t *testing.T, decls, params, is, body string) {
	t.Helper()
	texts := []string{"module M; " + decls}
	p := checkTaken(t, texts...)
	if len(p.Defs) == 0 {
		return
	}
	want := api.Program{Datas: p.Datas, Defs: append([]api.Def(nil), p.Defs...)}
	q, code := core.Read(`(def "M.f" (` + params + `) ` + is + ` ` + body + `)`)
	if code != api.OK {
		t.Fatalf("the test is wrong: %s: %v", body, code)
	}
	want.Defs[len(p.Defs)-1] = q.Defs[0]
	if code := core.Check(want); code != api.OK {
		t.Fatalf("the test is wrong: %s: %v", body, code)
	}
	if !sameProgram(p, want) {
		last := api.Program{Datas: p.Datas, Defs: p.Defs[len(p.Defs)-1:]}
		t.Errorf("Elab(%s):\n%v\nwant\n%s", short(texts), last.Defs, body)
	}
}

// checkFault: Elab answers this fault, and an empty program.
func checkFault(t *testing.T, texts []string, want api.Fault) {
	t.Helper()
	p, err := elab.Elab(texts)
	got, ok := api.Seen(err)
	if err == nil || !ok || got != want || p.Datas != nil || p.Defs != nil {
		t.Errorf("Elab(%s): %v, with %d definitions\nwant %v", short(texts), err, len(p.Defs), &want)
	}
}

// checkBad: of one module, M, the fault lies in this definition.
func checkBad(t *testing.T, decls string, code api.Errno, name string) {
	t.Helper()
	checkFault(t, []string{"module M; " + decls}, api.Fault{Code: code, Text: 0, At: -1, Name: "M." + name})
}

// tooGreat is the fault of a program above MaxCore.
var tooGreat = api.Fault{Code: api.ErrBig, Text: -1, At: -1}

// numbers writes a text so many times, with the number of each in the place of # and the next one in that of $.
func numbers(n int, text string) string {
	var b strings.Builder
	for i := range n {
		b.WriteString(strings.NewReplacer("#", fmt.Sprint(i), "$", fmt.Sprint(i+1)).Replace(text))
	}
	return b.String()
}

// list writes something so many times with commas between.
func list(n int, text string) string {
	return strings.TrimSuffix(strings.Repeat(text+",", n), ",")
}

// sized writes a type of n nodes, as an argument.
func sized(n int) string {
	if n%2 == 0 {
		return "[" + sized(n-1) + "]"
	}
	return strings.Repeat("(Int, ", n/2) + "Int" + strings.Repeat(")", n/2)
}
