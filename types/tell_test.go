package types_test

import (
	"fmt"
	"regexp"
	"slices"
	"strings"
	"testing"

	"sloth/api"
	"sloth/types"
)

// The pieces of which types are made here.

func variable(name string) api.Type { return api.Type{Kind: api.TyVar, Name: name} }

func numbered(name string, n int) api.Type { return variable(fmt.Sprint(name, n)) }

func data(name string, args ...api.Type) api.Type {
	return api.Type{Kind: api.TyData, Name: name, Args: args}
}

func fun(a, b api.Type) api.Type { return api.Type{Kind: api.TyFun, Args: []api.Type{a, b}} }

var number = api.Type{Kind: api.TyInt}

// told writes a type as the chapter says, without asking the package.
func told(t api.Type) string {
	var args []string
	for _, a := range t.Args {
		args = append(args, told(a))
	}
	switch {
	case t.Kind == api.TyInt:
		return "Int"
	case t.Kind == api.TyFun:
		return "(" + strings.Join(args, " -> ") + ")"
	case len(args) > 0:
		return "(" + t.Name + " " + strings.Join(args, " ") + ")"
	}
	return t.Name
}

func toldBounds(l []api.Bound) string {
	var parts []string
	for _, b := range l {
		parts = append(parts, b.Name+" "+told(b.Type))
	}
	return strings.Join(parts, "; ")
}

func toldPairs(l []api.Pair) string {
	var parts []string
	for _, p := range l {
		parts = append(parts, told(p.A)+" = "+told(p.B))
	}
	return strings.Join(parts, "; ")
}

var group = regexp.MustCompile(`\(([^()]*)\)`)

// plainType is a second form of Read's words but for the limits: the innermost brackets give place to a mark, till none is left.
func plainType(text string) (api.Type, bool) {
	if strings.Contains(text, "#") {
		return api.Type{}, false
	}
	var made []api.Type
	ok := true
	for ok && group.MatchString(text) {
		text = group.ReplaceAllStringFunc(text, func(piece string) string {
			t, is := plainGroup(strings.Trim(piece, "()"), made)
			made, ok = append(made, t), ok && is
			return fmt.Sprint("#", len(made)-1)
		})
	}
	t, is := plainAtom(text, made)
	return t, ok && is
}

func plainGroup(text string, made []api.Type) (api.Type, bool) {
	if a, b, ok := strings.Cut(text, " -> "); ok {
		from, is := plainAtom(a, made)
		to, too := plainAtom(b, made)
		return fun(from, to), is && too
	}
	words := strings.Split(text, " ")
	t, ok := plainAtom(words[0], nil)
	ok = ok && t.Kind == api.TyData && 2 <= len(words) && len(words) <= 1+api.MaxParams
	for _, w := range words[1:] {
		a, is := plainAtom(w, made)
		t.Args, ok = append(t.Args, a), ok && is
	}
	return t, ok
}

var (
	smallName   = regexp.MustCompile(`^[a-z][a-zA-Z0-9_']*$`)
	capitalName = regexp.MustCompile(`^[A-Z][a-zA-Z0-9_']*(\.[A-Z][a-zA-Z0-9_']*)?$`)
)

func plainAtom(word string, made []api.Type) (api.Type, bool) {
	for i, t := range made {
		if word == fmt.Sprint("#", i) {
			return t, true
		}
	}
	switch {
	case word == "Int":
		return number, true
	case smallName.MatchString(word):
		return variable(word), len(word) <= api.MaxName
	}
	return data(word), capitalName.MatchString(word) && len(word) <= api.MaxName
}

// typ reads a type of a test.
func typ(t *testing.T, text string) api.Type {
	t.Helper()
	made, ok := plainType(text)
	if !ok {
		t.Fatalf("the test's own type %q", text)
	}
	return made
}

// bounds reads "a Int; b (List c)".
func bounds(t *testing.T, text string) []api.Bound {
	t.Helper()
	var l []api.Bound
	for part := range strings.SplitSeq(text, "; ") {
		if name, value, ok := strings.Cut(part, " "); ok {
			l = append(l, api.Bound{Name: name, Type: typ(t, value)})
		}
	}
	return l
}

// pairs reads "a = Int; b = (List c)".
func pairs(t *testing.T, text string) []api.Pair {
	t.Helper()
	var l []api.Pair
	for part := range strings.SplitSeq(text, "; ") {
		if a, b, ok := strings.Cut(part, " = "); ok {
			l = append(l, api.Pair{A: typ(t, a), B: typ(t, b)})
		}
	}
	return l
}

// same tells whether two types are the same in all; a nil list and an empty one are (W5).
func same(a, b api.Type) bool {
	return a.Kind == b.Kind && a.Name == b.Name && slices.EqualFunc(a.Args, b.Args, same)
}

func sameBounds(a, b []api.Bound) bool {
	return slices.EqualFunc(a, b, func(x, y api.Bound) bool { return x.Name == y.Name && same(x.Type, y.Type) })
}

func short(s string) string {
	if len(s) > 900 {
		s = s[:600] + " .. " + s[len(s)-300:]
	}
	return s
}

// checkUnify: Unify makes these pairs agree so.
func checkUnify(t *testing.T, l []api.Pair, want string) {
	t.Helper()
	got, at, code := types.Unify(l)
	if code != api.OK || at != 0 || toldBounds(got) != want {
		t.Errorf("Unify(%s): %s, %d, %v\nwant %s", short(toldPairs(l)), short(toldBounds(got)), at, code, short(want))
	}
}

// checkRefused: Unify answers this error with this number, and nothing beside it.
func checkRefused(t *testing.T, l []api.Pair, want int, code api.Errno) {
	t.Helper()
	got, at, e := types.Unify(l)
	if e != code || at != want || len(got) != 0 {
		t.Errorf("Unify(%s): %s, %d, %v\nwant %d, %v", short(toldPairs(l)), short(toldBounds(got)), at, e, want, code)
	}
}

// checkApply: what Apply answers; beside an error the zero type.
func checkApply(t *testing.T, l []api.Bound, in, want api.Type, code api.Errno) {
	t.Helper()
	got, e := types.Apply(l, in)
	if e != code || !same(got, want) {
		t.Errorf("Apply(%s; %s): %s, %v\nwant %s, %v", short(toldBounds(l)), short(told(in)), short(told(got)), e, short(told(want)), code)
	}
}

func checkCanon(t *testing.T, in, want api.Type, code api.Errno) {
	t.Helper()
	got, e := types.Canon(in)
	if e != code || !same(got, want) {
		t.Errorf("Canon(%s): %s, %v\nwant %s, %v", short(told(in)), short(told(got)), e, short(told(want)), code)
	}
}

// checkInstance: want is the Bounds' text, or "no".
func checkInstance(t *testing.T, general, special api.Type, want string, code api.Errno) {
	t.Helper()
	got, is, e := types.Instance(general, special)
	wantIs := want != "no"
	if !wantIs {
		want = ""
	}
	if e != code || is != wantIs || toldBounds(got) != want {
		t.Errorf("Instance(%s, %s): %s, %v, %v\nwant %s, %v, %v", short(told(general)), short(told(special)), short(toldBounds(got)), is, e, short(want), wantIs, code)
	}
}

func checkPrint(t *testing.T, in api.Type, want string, code api.Errno) {
	t.Helper()
	got, e := types.Print(in)
	if e != code || got != want {
		t.Errorf("Print(%s): %s, %v\nwant %s, %v", short(told(in)), short(got), e, short(want), code)
	}
}

func checkRead(t *testing.T, text string, want api.Type, code api.Errno) {
	t.Helper()
	got, e := types.Read(text)
	if e != code || !same(got, want) {
		t.Errorf("Read(%s): %s, %v\nwant %s, %v", short(text), short(told(got)), e, short(told(want)), code)
	}
}

// row is a type of so many nodes, from 1 on; deep along one Arg.
func row(nodes int) api.Type {
	t := number
	if nodes%2 == 0 {
		t = data("List", number)
	}
	for range (nodes - 1) / 2 {
		t = fun(number, t)
	}
	return t
}
