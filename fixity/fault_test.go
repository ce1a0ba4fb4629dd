package fixity_test

import (
	"strings"
	"testing"

	"sloth/api"
	"sloth/fixity"
)

// P4.1 and P4.2: faults, which of them counts, and what it tells.

// TestBindFirst: the faults of Bind, as they are, and ahead of all that fixities say.
func TestBindFirst(t *testing.T) {
	mixed := "module Mix; x a b c = a == b == c;"
	for _, x := range []struct {
		texts []string
		want  api.Fault
	}{
		{make([]string, api.MaxTexts+1), api.Fault{Code: api.ErrLong, Text: -1, At: -1}},
		{[]string{mixed, strings.Repeat(" ", api.MaxText+1)}, api.Fault{Code: api.ErrLong, Text: 1, At: -1}},
		{[]string{mixed, "module M; x = 007;"}, api.Fault{Code: api.ErrLexNumber, Text: 1, At: 14}},
		{[]string{mixed, "module M; x = a + ;"}, api.Fault{Code: api.ErrSyntax, Text: 1, At: 18}},
		{[]string{mixed, "module M; x = " + strings.Repeat("[", api.MaxNest) + strings.Repeat("]", api.MaxNest) + ";"}, api.Fault{Code: api.ErrNest, Text: 1, At: 10}},
		{[]string{mixed, "module Mix;"}, api.Fault{Code: api.ErrScopeModule, Text: 1, At: -1, Name: "Mix"}},
		{[]string{mixed, "module M; import N;", "module N; import M;"}, api.Fault{Code: api.ErrScopeCycle, Text: 1, At: -1, Name: "M"}},
		{[]string{mixed, "module M; x a a = a;"}, api.Fault{Code: api.ErrScopeTwice, Text: 1, At: -1, Name: "x"}},
		{[]string{mixed, "module M; x = y;"}, api.Fault{Code: api.ErrScopeName, Text: 1, At: -1, Name: "x"}},
		{[]string{"module M; x a = a == a == a; y = z;"}, api.Fault{Code: api.ErrScopeName, Text: 0, At: -1, Name: "y"}},
		{[]string{"module M; x a = (a == a == b) ;"}, api.Fault{Code: api.ErrScopeName, Text: 0, At: -1, Name: "x"}},
		{[]string{"module A; x = 1;", "module B; x = 1;", "module C; import A; import B; y = x + x == 1 == 2;"}, api.Fault{Code: api.ErrScopeTwo, Text: 2, At: -1, Name: "y"}},
		{[]string{mixed, "module M; f (True x) = 1;"}, api.Fault{Code: api.ErrScopeArity, Text: 1, At: -1, Name: "f"}},
		{[]string{mixed, "module M; f :: Int Int; f = 1;"}, api.Fault{Code: api.ErrScopeType, Text: 1, At: -1, Name: "f"}},
		{[]string{mixed, "module M; infixl 3 +;"}, api.Fault{Code: api.ErrScopeFix, Text: 1, At: -1, Name: "+"}},
		{[]string{mixed, "module M; data T " + strings.Repeat("a", api.MaxName+1) + " = K;"}, api.Fault{Code: api.ErrBig, Text: 1, At: -1, Name: "T"}},
	} {
		checkFault(t, x.texts, x.want)
	}
}

const (
	mix     = "(a ? b ? c)"
	section = "(a + b *)"
)

// Within a body the first of two faults counts, from the outside and from the left.
func TestFirstOfABody(t *testing.T) {
	for _, x := range []string{
		"FIRST + SECOND", "FIRST - a - SECOND", "a : FIRST : SECOND", "f FIRST SECOND", "(FIRST) SECOND",
		"[FIRST, SECOND]", "(FIRST, SECOND)", "(a, FIRST, SECOND)",
		"(FIRST + SECOND +)", "(+ FIRST * SECOND)",
		"if FIRST then SECOND else a", "if a then FIRST else SECOND", "if FIRST then a else SECOND",
		`\x -> FIRST + SECOND`, `(\x -> FIRST) SECOND`,
		"let { y = FIRST; z = SECOND } in a", "let { y = FIRST } in SECOND", "let { y = a } in FIRST + SECOND", "let { y = let { z = FIRST } in a; w = SECOND } in a",
		"case FIRST of { x -> SECOND }", "case a of { 1 -> FIRST; _ -> SECOND }", "case FIRST of { x -> a; y -> SECOND }", "case case a of { x -> FIRST } of { y -> SECOND }",
		// Out of a bracket the next operand has its turn.
		"((a + (b : FIRST))) : SECOND", `(\x -> f (FIRST : a)) + SECOND`,
	} {
		one := strings.NewReplacer("FIRST", mix, "SECOND", section)
		other := strings.NewReplacer("FIRST", section, "SECOND", mix)
		checkBad(t, one.Replace(x), api.ErrFixMix)
		checkBad(t, other.Replace(x), api.ErrFixSection)
	}
}

// A row's own fault counts ahead of those of its operands: of these nothing is asked till their turn comes.
func TestOuterFirst(t *testing.T) {
	for _, operand := range []string{"a", mix, section, `(\x -> ` + mix + ")", "(let { y = " + section + " } in " + mix + ")"} {
		for body, code := range map[string]api.Errno{
			"X ? b ? X":       api.ErrFixMix,
			"X <+> X +> X":    api.ErrFixMix,
			"(X == X ?)":      api.ErrFixMix,
			"(! X ! X)":       api.ErrFixMix,
			"(X + X *)":       api.ErrFixSection,
			"(* X + X)":       api.ErrFixSection,
			"(X : X :)":       api.ErrFixSection,
			"(- X - X)":       api.ErrFixSection,
			"a + (X ? X ? X)": api.ErrFixMix,
			"f (+ X ? X)":     api.ErrFixSection,
		} {
			checkBad(t, strings.ReplaceAll(body, "X", operand), code)
		}
	}
}

// Clause by clause, module by module, in Bind's order, whatever the texts' is; the fault tells the top clause.
func TestFirstOfClausesAndModules(t *testing.T) {
	deep := "1" + strings.Repeat(" + 1", 500)
	codes := map[string]api.Errno{"1 == 1 == 1": api.ErrFixMix, "(1 + 1 *)": api.ErrFixSection, deep: api.ErrNest}
	for first, code := range codes {
		for second := range codes {
			a := "module A; import B; w = " + second + ";"
			b := "module B; v = 1; x 0 = 1 + 1; x 1 = " + first + "; x _ = " + second + "; y = " + second + ";"
			c := "module C; v = 1 + 1;"
			fault := api.Fault{Code: code, At: -1, Name: "B.x"}
			for at, texts := range [][]string{{b, a, c}, {a, b, c}, {c, a, b}} {
				fault.Text = at
				checkFault(t, texts, fault)
			}
		}
		local := "module M; v = 1; f = let { g x = case x of { y -> " + first + " } } in g; h = 1;"
		checkFault(t, []string{"module L;", local}, api.Fault{Code: code, Text: 1, At: -1, Name: "M.f"})
		operator := "module M; (+++) a b = " + first + ";"
		checkFault(t, []string{operator}, api.Fault{Code: code, Text: 0, At: -1, Name: "M.+++"})
	}
}

// chain: a row of n operators of one kind. Its tree is 2 n + 1 deep, if they are left, and n + 2 deep, if they are right.
func chain(op string, n int) string { return "1" + strings.Repeat(" "+op+" 1", n) }

// TestNest: a body that is resolved may be as deep as MaxNest, and no deeper.
func TestNest(t *testing.T) {
	tuples := func(n int) string { return strings.Repeat("(1, ", n) + "x" + strings.Repeat(")", n) }
	lists := func(n int) string { return strings.Repeat("[", n) + strings.Repeat("]", n) }
	pats := func(n int) string { return strings.Repeat("(_ : ", n) + "_" + strings.Repeat(")", n) } // n + 1 deep
	for _, x := range []struct {
		what, body string
		deep       int
	}{
		{"left", chain("+", 499), 999},
		{"left", chain("+", 500), 1001},
		{"right", chain(":", 998), 1000},
		{"right", chain(":", 999), 1001},
		{"a call on the left, which is the deepest", "x 1" + strings.Repeat(" + 1", 499), 1000},
		{"a call on the right, which is not", chain("+", 499) + " 1", 999},
		{"a call on the right, which is the deepest", chain(":", 997) + " 1 1", 1000},
		{"a call on the right, which is the deepest", chain(":", 998) + " 1 1", 1001},
		{"two levels", chain("*", 250) + strings.Repeat(" + 1", 249), 999},
		{"two levels", "x 1" + strings.Repeat(" * 1", 250) + strings.Repeat(" + 1", 249), 1000},
		{"two levels", chain("*", 250) + strings.Repeat(" + 1", 250), 1001},
		{"a lambda", `\y -> ` + chain("+", 499), 1000},
		{"two lambdas", `\y -> \z -> ` + chain("+", 499), 1001},
		{"a section on the left", "(" + chain("+", 499) + " +)", 1000},
		{"a section on the left", "(x 1" + strings.Repeat(" + 1", 499) + " +)", 1001},
		{"a section on the right", "(: " + chain(":", 997) + ")", 1000},
		{"a section on the right", "(: " + chain(":", 998) + ")", 1001},
		{"an operand", "1 + (" + chain("+", 499) + ")", 1000},
		{"an operand", "1 * (x 1" + strings.Repeat(" + 1", 499) + ")", 1001},
		{"the first operand", "(" + chain("+", 498) + ") * 1", 999},
		{"the first operand", "(x 1" + strings.Repeat(" + 1", 498) + ") * 1", 1000},
		{"tuples in an operand", tuples(996) + " + 1", 1000},
		{"tuples in an operand", tuples(997) + " + 1", 1001},
		{"tuples in an operand", "1 + " + tuples(997), 1000},
		{"lists in an operand", "1 + " + lists(500), 1000},
		{"lists in an operand", lists(500) + " + 1", 1001},
		{"a condition", "if " + chain("+", 499) + " then 1 else 1", 1000},
		{"a let's clause", "let { y = " + chain("+", 499) + " } in 1", 1000},
		{"a let's clause", "let { y = x 1" + strings.Repeat(" + 1", 499) + " } in 1", 1001},
		{"a let's body", "let { y = 1 } in " + chain("+", 499), 1000},
		{"an alternative", "case 1 of { 1 -> 1; _ -> " + chain("+", 499) + " }", 1000},
		{"an alternative", "case 1 of { 1 -> 1; _ -> x 1" + strings.Repeat(" + 1", 499) + " }", 1001},
		{"what is looked at", "case " + chain("+", 499) + " of { _ -> 1 }", 1000},
		// A pattern lies as deep as what stands around it, resolved.
		{"a lambda's pattern", `1 + \` + pats(997) + " -> 1", 1000},
		{"a lambda's pattern", `1 + 1 + \` + pats(997) + " -> 1", 1000},
		{"a lambda's pattern", `1 : 1 : \` + pats(995) + " -> 1", 999},
		{"a lambda's pattern", `1 : 1 : \` + pats(997) + " -> 1", 1001},
		{"a pattern of a let", "1 : 1 : let { y " + pats(996) + " = 1 } in 1", 1000},
		{"a pattern of a let", "1 : 1 : let { y " + pats(997) + " = 1 } in 1", 1001},
		{"a pattern of a case", "1 : 1 : case 1 of { " + pats(996) + " -> 1 }", 1000},
		{"a pattern of a case", "1 : 1 : case 1 of { " + pats(997) + " -> 1 }", 1001},
	} {
		text := "module M; v = 1; x = 1; y = " + x.body + "; z = 1;"
		if x.deep > api.MaxNest {
			checkFault(t, []string{"module L; x = 1;", text}, api.Fault{Code: api.ErrNest, Text: 1, At: -1, Name: "M.y"})
			continue
		}
		l, err := fixity.Resolve([]string{text})
		if err != nil {
			t.Errorf("%s: %v, want it %d deep", x.what, err, x.deep)
		} else if got := nestOf(l[0].Clauses[2].Body); got != x.deep {
			t.Errorf("%s: %d deep, want %d", x.what, got, x.deep)
		}
	}
}

// In one clause every other fault counts ahead of its nest, wherever it stands.
func TestNestLast(t *testing.T) {
	deep := chain("+", 600)
	for body, code := range map[string]api.Errno{
		deep:                               api.ErrNest,
		deep + " == a":                     api.ErrNest,
		deep + " ? a ? b":                  api.ErrFixMix,
		deep + " +> a":                     api.ErrFixMix,
		"(" + deep + " *)":                 api.ErrFixSection,
		"f (" + deep + ") " + mix:          api.ErrFixMix,
		"(" + deep + ", " + section + ")":  api.ErrFixSection,
		"f " + section + " (" + deep + ")": api.ErrFixSection,
		"(" + deep + " + " + mix + " +)":   api.ErrFixMix,
	} {
		checkBad(t, body, code)
	}
	// The patterns of a clause are no part of its body.
	checkTaken(t, "module M; x "+strings.Repeat("(_ : ", 999)+"_"+strings.Repeat(")", 999)+" = "+chain("+", 499)+";")
}

// TestLongRows: as many operators as a text has room for.
func TestLongRows(t *testing.T) {
	const n = 9990
	for _, op := range []string{"+", ":"} {
		row := chain(op, n)
		fault := api.Fault{Code: api.ErrNest, Text: 0, At: -1, Name: "M.x"}
		checkFault(t, []string{"module M; x = " + row + ";"}, fault)
		fault.Code = api.ErrFixMix
		checkFault(t, []string{"module M; x = 1 == " + row + " == 1;"}, fault)
		fault.Code = api.ErrFixSection
		checkFault(t, []string{"module M; x = (" + row + " *);"}, fault)
		checkFault(t, []string{"module M; x = (* " + row + ");"}, fault)
	}
	broad := strings.Repeat(chain("*", 99)+" + ", 99) + "1" // 9900 operators, and no deep tree
	checkTaken(t, "module M; x = "+broad+";")
	many := make([]string, api.MaxTexts)
	for i := range many {
		many[i] = "module M" + string(rune('a'+i)) + "; x = " + broad + ";"
	}
	checkTaken(t, many...)
}
