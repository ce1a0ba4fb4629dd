package infer_test

import (
	"fmt"
	"slices"
	"strings"
	"testing"

	"sloth/api"
	"sloth/infer"
)

// told writes a type with no more brackets than it needs, by the names that answers have.
func told(t api.Type) string {
	switch t.Kind {
	case api.TyInt:
		return "Int"
	case api.TyVar:
		return t.Name
	case api.TyFun:
		return argument(t.Args[0], t.Args[0].Kind == api.TyFun) + " -> " + told(t.Args[1])
	}
	s := t.Name
	for _, a := range t.Args {
		s += " " + argument(a, a.Kind == api.TyFun || len(a.Args) > 0)
	}
	return s
}

func argument(t api.Type, brackets bool) string {
	if brackets {
		return "(" + told(t) + ")"
	}
	return told(t)
}

func toldAll(l []api.Sig) string {
	var parts []string
	for _, s := range l {
		parts = append(parts, s.Name+" : "+told(s.Type))
	}
	return strings.Join(parts, "; ")
}

// same tells whether two types are one in all; a nil list and an empty one are (W5).
func same(a, b api.Type) bool {
	return a.Kind == b.Kind && a.Name == b.Name && slices.EqualFunc(a.Args, b.Args, same)
}

func sameAll(a, b []api.Sig) bool {
	return slices.EqualFunc(a, b, func(a, b api.Sig) bool { return a.Name == b.Name && same(a.Type, b.Type) })
}

func short(texts []string) string {
	s := strings.Join(texts, " | ")
	if len(s) > 1500 {
		s = s[:300] + " .. " + s[len(s)-600:]
	}
	return s
}

// checkTold: Infer tells these types of one module, M, whose declarations are given; the names stand without it.
func checkTold(t *testing.T, decls, want string) {
	t.Helper()
	l, err := infer.Infer([]string{"module M; " + decls})
	got := strings.ReplaceAll(toldAll(l), "M.", "")
	if err != nil || got != want {
		t.Errorf("Infer(%s): %s, %v\nwant %s", short([]string{decls}), got, err, want)
	}
}

// checkFault: Infer answers this fault, and nothing beside it.
func checkFault(t *testing.T, texts []string, want api.Fault) {
	t.Helper()
	l, err := infer.Infer(texts)
	got, ok := api.Seen(err)
	if err == nil || !ok || got != want || len(l) != 0 {
		t.Errorf("Infer(%s): %v, with %d types\nwant %v", short(texts), err, len(l), &want)
	}
}

// checkBad: of one module, M, the fault lies in this definition or constructor.
func checkBad(t *testing.T, decls string, code api.Errno, name string) {
	t.Helper()
	checkFault(t, []string{"module M; " + decls}, api.Fault{Code: code, Text: 0, At: -1, Name: "M." + name})
}

// checkTaken: Infer takes these texts; it tells their types.
func checkTaken(t *testing.T, texts ...string) []api.Sig {
	t.Helper()
	l, err := infer.Infer(texts)
	if err != nil {
		t.Errorf("Infer(%s): %v, want no error", short(texts), err)
	}
	return l
}

// numbers writes a text so many times, with the number of each in the place of # and the next one in that of $.
func numbers(n int, text string) string {
	var b strings.Builder
	for i := range n {
		b.WriteString(strings.NewReplacer("#", fmt.Sprint(i), "$", fmt.Sprint(i+1)).Replace(text))
	}
	return b.String()
}

// pairs writes a type of n nodes: n is odd.
func pairs(n int) string {
	return strings.Repeat("(Int, ", n/2) + "Int" + strings.Repeat(")", n/2)
}

// sized writes a type of n nodes, as an argument.
func sized(n int) string {
	if n%2 == 0 {
		return "[" + pairs(n-1) + "]"
	}
	return pairs(n)
}

// nodes counts those of a type.
func nodes(t api.Type) int {
	n := 1
	for _, a := range t.Args {
		n += nodes(a)
	}
	return n
}
