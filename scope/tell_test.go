package scope_test

import (
	"strconv"
	"strings"
	"testing"

	"sloth/api"
	"sloth/scope"
)

// Answers in short: told writes modules as texts of one form, every call and row in brackets, so that they can be held against what a test says.

func told(l []api.Module) string {
	var parts []string
	for _, m := range l {
		parts = append(parts, toldModule(m))
	}
	return strings.Join(parts, " | ")
}

func toldModule(m api.Module) string {
	s := m.Name + "@" + strconv.Itoa(m.Text)
	for _, i := range m.Imports {
		s += "; import " + i.Module
		if i.Some {
			s += " (" + strings.Join(i.Names, ", ") + ")"
		}
	}
	for _, d := range m.Datas {
		s += "; data " + strings.Join(append([]string{d.Name}, d.Params...), " ") + " ="
		for i, c := range d.Cons {
			if i > 0 {
				s += " or"
			}
			s += " " + c.Name
			for _, f := range c.Fields {
				s += " " + toldType(f)
			}
		}
	}
	for _, f := range m.Fixes {
		s += "; " + toldFix(f)
	}
	for _, g := range m.Sigs {
		s += "; " + g.Name + " :: " + toldType(g.Type)
	}
	for _, c := range m.Clauses {
		s += "; " + toldClause(c)
	}
	return s
}

func toldFix(f api.Fixity) string {
	return [...]string{"infix", "infixl", "infixr"}[f.Assoc] + " " + strconv.Itoa(f.Level) + " " + f.Op
}

func toldFixes(l []api.Fixity) string {
	var parts []string
	for _, f := range l {
		parts = append(parts, toldFix(f))
	}
	return strings.Join(parts, "; ")
}

func toldType(t api.Type) string {
	s := t.Name
	switch t.Kind {
	case api.TyInt:
		s = "#" + t.Name
	case api.TyVar:
		s = "'" + t.Name
	case api.TyFun:
		s = "->" + t.Name
	case api.TyData:
	default:
		s = "?" + t.Name
	}
	if len(t.Args) == 0 {
		return s
	}
	for _, a := range t.Args {
		s += " " + toldType(a)
	}
	return "(" + s + ")"
}

func toldPat(p api.Pat) string {
	switch p.Kind {
	case api.PatWild:
		return "_"
	case api.PatInt:
		return strconv.Itoa(p.Num)
	case api.PatVar:
		return "'" + p.Name
	}
	if len(p.Args) == 0 {
		return p.Name
	}
	return "(" + p.Name + toldPats(p.Args) + ")"
}

func toldPats(l []api.Pat) string {
	s := ""
	for _, p := range l {
		s += " " + toldPat(p)
	}
	return s
}

func toldClause(c api.Clause) string {
	return c.Name + toldPats(c.Pats) + " = " + toldTerm(c.Body)
}

func toldTerm(t api.Term) string {
	switch t.Kind {
	case api.TermVar:
		return t.Name
	case api.TermCon:
		return "^" + t.Name
	case api.TermInt:
		return strconv.Itoa(t.Num)
	}
	s := [...]string{"", "", "", "", "", "flat ", "\\", "let ", "if ", "case ", "left ", "right "}[t.Kind]
	if t.Kind == api.TermLam {
		s += strings.TrimSpace(toldPats(t.Pats)) + " . "
	}
	for _, c := range t.Clauses {
		s += toldClause(c) + "; "
	}
	for i, a := range t.Args {
		if i > 0 {
			s += " "
		}
		s += toldTerm(a)
	}
	for _, b := range t.Alts {
		s += "; " + toldPat(b.Pat) + " . " + toldTerm(b.Body)
	}
	return "(" + s + ")"
}

// texts: what stands in a test with / for line ends. (No test has the operator /, but where it says so.)
func texts(l []string) []string {
	out := make([]string, len(l))
	for i, s := range l {
		out[i] = strings.ReplaceAll(s, "/", "\n")
	}
	return out
}

func short(l []string) string {
	s := strings.Join(l, " | ")
	if len(s) > 500 {
		s = s[:300] + " .. " + s[len(s)-150:]
	}
	return strconv.Quote(s)
}

// checkTold: Bind answers these modules and fixities.
func checkTold(t *testing.T, sources []string, modules, fixes string) {
	t.Helper()
	l, f, err := scope.Bind(sources)
	if err != nil || told(l) != modules || toldFixes(f) != fixes {
		t.Errorf("Bind(%s): %s; %s; %v\nwant %s; %s", short(sources), told(l), toldFixes(f), err, modules, fixes)
	}
}

// checkFault: Bind answers this fault, and nothing beside it.
func checkFault(t *testing.T, sources []string, want api.Fault) {
	t.Helper()
	l, f, err := scope.Bind(sources)
	fault, ok := err.(*api.Fault)
	if !ok || *fault != want || len(l) != 0 || len(f) != 0 {
		t.Errorf("Bind(%s): %v, with %d modules, %d fixities\nwant %v", short(sources), err, len(l), len(f), &want)
	}
}

// checkBad: a fault of a module: that is, from the third rule on.
func checkBad(t *testing.T, sources []string, code api.Errno, text int, name string) {
	t.Helper()
	checkFault(t, sources, api.Fault{Code: code, Text: text, At: -1, Name: name})
}

// checkGood: Bind takes these texts.
func checkGood(t *testing.T, sources []string) {
	t.Helper()
	if _, _, err := scope.Bind(sources); err != nil {
		t.Errorf("Bind(%s): %v, want no error", short(sources), err)
	}
}
