package fixity_test

import (
	"fmt"
	"strconv"
	"strings"
	"testing"

	"sloth/api"
	"sloth/fixity"
)

// head is the module of the chapter's examples, with some operators beside: the weakest and the tightest ones, a name with a fixity, and one without.
const head = `module M;
infixl 6 <+>; infixr 6 +>; infix 4 ?; infixr 7 ` + "`pow`" + `; infixl 0 <<; infixr 0 >>; infix 9 !;
data T = K Int Int;
(<+>) a b = a; (+>) a b = a; (?) a b = a; (<<) a b = a; (>>) a b = a; (!) a b = a; ($) a b = a;
pow a b = a; f a b = a;
`

// before: how many clauses stand in head.
const before = 9

// told writes a term with every call in brackets; what is no call stands in curly ones.
func told(t api.Term) string {
	switch t.Kind {
	case api.TermVar, api.TermCon:
		return t.Name
	case api.TermInt:
		return strconv.Itoa(t.Num)
	case api.TermApp:
		return "(" + toldAll(t.Args) + ")"
	}
	s := [...]string{"?", "?", "?", "?", "?", "flat ", "\\ ", "let ", "if ", "case ", "left ", "right "}[t.Kind]
	for _, c := range t.Clauses {
		s += c.Name + " = " + told(c.Body) + "; "
	}
	s += toldAll(t.Args)
	for _, b := range t.Alts {
		s += "; " + told(b.Body)
	}
	return "{" + s + "}"
}

func toldAll(l []api.Term) string {
	var parts []string
	for _, t := range l {
		parts = append(parts, told(t))
	}
	return strings.Join(parts, " ")
}

// same tells whether two things are the same in all; a nil list and an empty one are (W5).
func same(a, b any) bool { return fmt.Sprintf("%+v", a) == fmt.Sprintf("%+v", b) }

func short(texts []string) string {
	s := strings.Join(texts, " | ")
	if len(s) > 900 {
		s = s[:600] + " .. " + s[len(s)-300:]
	}
	return s
}

// checkBody: in the module of head this body is resolved so.
func checkBody(t *testing.T, body, want string) {
	t.Helper()
	l, err := fixity.Resolve([]string{head + "x a b c d = " + body + ";"})
	if err != nil || len(l) != 1 {
		t.Errorf("%s: %v, with %d modules\nwant %s", body, err, len(l), want)
		return
	}
	if got := told(l[0].Clauses[before].Body); got != want {
		t.Errorf("%s: %s\nwant %s", body, got, want)
	}
}

// checkFault: Resolve answers this fault, and nothing beside it.
func checkFault(t *testing.T, texts []string, want api.Fault) {
	t.Helper()
	l, err := fixity.Resolve(texts)
	got, ok := api.Seen(err)
	if err == nil || !ok || got != want || len(l) != 0 {
		t.Errorf("Resolve(%s): %v, with %d modules\nwant %v", short(texts), err, len(l), &want)
	}
}

// checkBad: in the module of head this body has a fault.
func checkBad(t *testing.T, body string, code api.Errno) {
	t.Helper()
	checkFault(t, []string{head + "x a b c d = " + body + ";"}, api.Fault{Code: code, Text: 0, At: -1, Name: "M.x"})
}

// checkTaken: Resolve takes these texts.
func checkTaken(t *testing.T, texts ...string) {
	t.Helper()
	if _, err := fixity.Resolve(texts); err != nil {
		t.Errorf("Resolve(%s): %v, want no error", short(texts), err)
	}
}
