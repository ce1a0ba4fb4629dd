package syntax_test

import (
	"strings"
	"testing"

	"sloth/api"
	"sloth/lex"
	"sloth/syntax"
)

func checkPrint(t *testing.T, m api.Module, want string) {
	t.Helper()
	got, code := syntax.Print(m)
	if got != want || code != api.OK {
		t.Errorf("Print(%s) = %s, %v; want %s", short(m), short(got), code, short(want))
	}
}

func checkRefused(t *testing.T, m api.Module, want api.Errno) {
	t.Helper()
	if got, code := syntax.Print(m); got != "" || code != want {
		t.Errorf("Print(%s) = %s, %v; want nothing, %v", short(m), short(got), code, want)
	}
}

// P2.7.

func TestPrintedModules(t *testing.T) {
	a := tyVar("a")
	checkPrint(t, api.Module{Name: "M"}, "module M;\n")
	checkPrint(t, api.Module{
		Name:    "M'",
		Imports: []api.Import{{Module: "N"}, {Module: "O", Some: true}, {Module: "P", Some: true, Names: []string{"a", "+", "B"}}, {Module: "N", Some: true, Names: []string{"-->"}}},
		Datas:   []api.Data{{Name: "T", Params: []string{"a", "b"}, Cons: []api.Con{{Name: "A", Fields: []api.Type{a, data("T", a), data("T"), fun(a, a), data("[]", a), data("(,)", a, a)}}, {Name: "B"}}}, {Name: "U", Cons: []api.Con{{Name: "U"}}}},
		Fixes:   []api.Fixity{{Op: "+", Assoc: api.AssocLeft, Level: 6}, {Op: "f", Assoc: api.AssocRight, Level: 0}, {Op: "|>", Level: 9}},
		Sigs:    []api.Sig{{Name: "f", Type: a}, {Name: "+", Type: fun(a, a)}},
		Clauses: []api.Clause{clause("f", num(1), patVar("x"), patCon("C", wild())), clause("+", num(2)), clause("f", num(3))},
	}, "module M';\nimport N;\nimport O ();\nimport P (a, (+), B);\nimport N ((-->));\ndata T a b = A a (T a) T (a -> a) [a] (a, a) | B;\ndata U = U;\ninfixl 6 +;\ninfixr 0 `f`;\ninfix 9 |>;\nf :: a;\n(+) :: a -> a;\nf x (C _) = 1;\n(+) = 2;\nf = 3;\n")
}

func TestPrintedTypes(t *testing.T) {
	a, b := tyVar("a"), tyVar("b")
	for want, x := range map[string]api.Type{
		"a":                               a,
		"Int":                             data("Int"),
		"a -> b -> a":                     fun(a, fun(b, a)),
		"(a -> b) -> a":                   fun(fun(a, b), a),
		"M.T a T (T b)":                   data("M.T", a, data("T"), data("T", b)),
		"T a -> T b":                      fun(data("T", a), data("T", b)),
		"T (a -> b) [a -> b] () (a, T b)": data("T", fun(a, b), data("[]", fun(a, b)), data("()"), data("(,)", a, data("T", b))),
		"[T a]":                           data("[]", data("T", a)),
		"() -> ()":                        fun(data("()"), data("()")),
		"(a -> b, T a, [a])":              data("(,,)", fun(a, b), data("T", a), data("[]", a)),
	} {
		checkPrint(t, withType(x), "module M;\nf :: "+want+";\n")
	}
}

func TestPrintedPatterns(t *testing.T) {
	x, y, z := patVar("x"), patVar("y"), patVar("z")
	for want, p := range map[string]api.Pat{
		"x":                         x,
		"_":                         wild(),
		"0":                         patInt(0),
		"4611686018427387903":       patInt(api.MaxInt),
		"C":                         patCon("C"),
		"M.C":                       patCon("M.C"),
		"C x (M.C y) _":             patCon("C", x, patCon("M.C", y), wild()),
		"x : y":                     patCon(":", x, y),
		"x : y : z":                 patCon(":", x, patCon(":", y, z)),
		"(x : y) : z":               patCon(":", patCon(":", x, y), z),
		"C x : C y":                 patCon(":", patCon("C", x), patCon("C", y)),
		"C (x : y) []":              patCon("C", patCon(":", x, y), patCon("[]")),
		"()":                        patCon("()"),
		"[]":                        patCon("[]"),
		"x : y : []":                patList(x, y),
		"(x, y)":                    patCon("(,)", x, y),
		"(x : y, C z, (x, y))":      patCon("(,,)", patCon(":", x, y), patCon("C", z), patCon("(,)", x, y)),
		"C (x, y) (x, y, z) () (C)": patCon("C", patCon("(,)", x, y), patCon("(,,)", x, y, z), patCon("()"), patCon("C")),
	} {
		want = strings.ReplaceAll(want, "(C)", "C")
		checkPrint(t, withBody(cases(num(1), alt(p, num(2)))), "module M;\nf = case 1 of {"+want+" -> 2};\n")
		argument := want
		if len(p.Args) > 0 && p.Name[0] != '(' {
			argument = "(" + want + ")"
		}
		checkPrint(t, withPat(p), "module M;\nf "+argument+" = 1;\n")
		checkPrint(t, withBody(lam(num(1), p, p)), "module M;\nf = \\"+argument+" "+argument+" -> 1;\n")
		checkPrint(t, withBody(let(num(1), clause("g", num(2), p))), "module M;\nf = let {g "+argument+" = 2} in 1;\n")
	}
}

func TestPrintedTerms(t *testing.T) {
	a, b, c, plus, colon, x := named("a"), named("b"), named("c"), named("+"), con(":"), patVar("x")
	for _, p := range []struct {
		term                    api.Term
		full, operand, argument string // the last two: none, if they are as the one ahead
	}{
		{a, "a", "", ""},
		{named("M.a"), "M.a", "", ""},
		{con("C"), "C", "", ""},
		{con("M.C"), "M.C", "", ""},
		{num(0), "0", "", ""},
		{num(api.MaxInt), "4611686018427387903", "", ""},
		{plus, "(+)", "", ""},
		{named("-->"), "(-->)", "", ""},
		{colon, "(:)", "", ""},
		{con("[]"), "[]", "", ""},
		{con("()"), "()", "", ""},
		{app(a, b, c), "a b c", "", "(a b c)"},
		{app(a, app(b, c)), "a (b c)", "", "(a (b c))"},
		{app(plus, a, b), "(+) a b", "", "((+) a b)"},
		{app(colon, a), "(:) a", "", "((:) a)"},
		{app(colon, a, b), "(:) a b", "", "((:) a b)"},
		{app(colon, a, con("[]"), b), "[a] b", "", "([a] b)"},
		{app(colon, a, app(colon, b, c)), "(:) a ((:) b c)", "", "((:) a ((:) b c))"},
		{app(con("C"), num(1)), "C 1", "", "(C 1)"},
		{list(a), "[a]", "", ""},
		{list(a, flat(a, plus, b), lam(a, x), list()), "[a, a + b, \\x -> a, []]", "", ""},
		{list(list(a), app(a, b)), "[[a], a b]", "", ""},
		{app(con("(,)"), a, app(b, c)), "(a, b c)", "", ""},
		{app(con("(,)"), a, b, c), "(a, b) c", "", "((a, b) c)"},
		{app(con("(,,)"), lam(a, x), app(con("(,)"), a, b), flat(a, plus, b)), "(\\x -> a, (a, b), a + b)", "", ""},
		{app(con("(,,)"), a, b, c, a), "(a, b, c) a", "", "((a, b, c) a)"},
		{app(con("(,,)"), a, b, list(a), c, list(b)), "(a, b, [a]) c [b]", "", "((a, b, [a]) c [b])"},
		{flat(a, plus, b), "a + b", "(a + b)", ""},
		{flat(a, colon, b, named("f"), c, named("M.f"), a, con("C"), b, con("M.C"), c), "a : b `f` c `M.f` a `C` b `M.C` c", "(a : b `f` c `M.f` a `C` b `M.C` c)", ""},
		{flat(app(a, b), plus, flat(a, plus, b), named("-"), plus), "a b + (a + b) - (+)", "(a b + (a + b) - (+))", ""},
		{flat(lam(a, x), plus, lam(a, x)), "(\\x -> a) + (\\x -> a)", "((\\x -> a) + (\\x -> a))", ""},
		{app(flat(a, plus, b), flat(a, plus, b)), "(a + b) (a + b)", "", "((a + b) (a + b))"},
		{left(a, plus), "(a +)", "", ""},
		{left(app(a, b), plus, flat(a, plus, b), con("C")), "(a b + (a + b) `C`)", "", ""},
		{left(left(a, plus), colon), "((a +) :)", "", ""},
		{left(lam(a, x), plus), "((\\x -> a) +)", "", ""},
		{right(plus, a), "(+ a)", "", ""},
		{right(named("f"), app(a, b), colon, list(a)), "(`f` a b : [a])", "", ""},
		{right(named("-"), let(a, clause("f", b))), "(- (let {f = b} in a))", "", ""},
		{right(named("-"), right(plus, plus)), "(- (+ (+)))", "", ""},
		{lam(flat(a, plus, b), x, wild()), "\\x _ -> a + b", "(\\x _ -> a + b)", ""},
		{lam(lam(a, x), x), "\\x -> \\x -> a", "(\\x -> \\x -> a)", ""},
		{let(flat(a, plus, b), clause("f", app(a, b), x), clause("+", lam(a, x))), "let {f x = a b; (+) = \\x -> a} in a + b", "(let {f x = a b; (+) = \\x -> a} in a + b)", ""},
		{cond(flat(a, plus, b), cond(a, b, c), lam(a, x)), "if a + b then if a then b else c else \\x -> a", "(if a + b then if a then b else c else \\x -> a)", ""},
		{cases(flat(a, plus, b), alt(x, cases(a, alt(wild(), b))), alt(patCon("C", x), flat(a, plus, b))), "case a + b of {x -> case a of {_ -> b}; C x -> a + b}", "(case a + b of {x -> case a of {_ -> b}; C x -> a + b})", ""},
		{app(cases(a, alt(x, b)), c), "(case a of {x -> b}) c", "", "((case a of {x -> b}) c)"},
		{app(lam(named("y"), patVar("y")), flat(num(1), plus, num(2))), "(\\y -> y) (1 + 2)", "", "((\\y -> y) (1 + 2))"},
	} {
		operand, argument := p.operand, p.argument
		if operand == "" {
			operand = p.full
		}
		if argument == "" {
			argument = operand
		}
		for _, in := range []struct {
			body api.Term
			want string
		}{
			{p.term, p.full},
			{lam(p.term, x), "\\x -> " + p.full},
			{let(p.term, clause("g", p.term)), "let {g = " + p.full + "} in " + p.full},
			{cond(p.term, p.term, p.term), "if " + p.full + " then " + p.full + " else " + p.full},
			{cases(p.term, alt(x, p.term)), "case " + p.full + " of {x -> " + p.full + "}"},
			{app(con("(,)"), p.term, p.term), "(" + p.full + ", " + p.full + ")"},
			{list(p.term, p.term), "[" + p.full + ", " + p.full + "]"},
			{flat(p.term, plus, p.term), operand + " + " + operand},
			{left(p.term, plus), "(" + operand + " +)"},
			{right(plus, p.term), "(+ " + operand + ")"},
			{app(a, p.term), "a " + argument},
		} {
			checkPrint(t, withBody(in.body), "module M;\nf = "+in.want+";\n")
		}
	}
	checkPrint(t, withClause(clause("f", app(lam(named("y"), patVar("y")), flat(num(1), plus, num(2))), patCon(":", patCon("C", x), wild()))), "module M;\nf (C x : _) = (\\y -> y) (1 + 2);\n")
}

// P2.6: modules that may not be.

func TestNames(t *testing.T) {
	lower := []string{"a", "f'_1A", "lets", "x"}
	upper := []string{"A", "M_'1", "Int"}
	qlower := []string{"M.a", "M'.lets"}
	qupper := []string{"M.A", "M1.N'"}
	op := []string{"+", "-", ".", "==", "-->", "|-", "--|", "=>", "<-", "@", "^", "~", "||", "+:"}
	none := []string{"", " ", "a ", " a", "a b", "1", "'", "\"", "_", "_a", "M.", ".M", "M.N.a", "M.N.A", "m.a", "M.let", "M.+", "let", "in", "of", "infix", "module", "=", "|", "->", "::", "--", "---", ":+", ":=", ":::", "é", "a\x00", "a+", "+a", "(+)", "`f`", ";", "(", ")", "(,,,)", "[a]", "\x00", "f\n"}
	made := []string{":", "[]", "()", "(,)", "(,,)"}
	for _, place := range []struct {
		name string
		in   func(string) api.Module
		may  [][]string
	}{
		{"a module", func(n string) api.Module { return api.Module{Name: n} }, [][]string{upper}},
		{"an import", func(n string) api.Module { return withImport(api.Import{Module: n}) }, [][]string{upper}},
		{"an item", func(n string) api.Module {
			return withImport(api.Import{Module: "N", Some: true, Names: []string{"a", n}})
		}, [][]string{lower, upper, op}},
		{"a data type", func(n string) api.Module { return withData(api.Data{Name: n, Cons: []api.Con{{Name: "C"}}}) }, [][]string{upper}},
		{"a parameter", func(n string) api.Module {
			return withData(api.Data{Name: "T", Params: []string{"a", n}, Cons: []api.Con{{Name: "C"}}})
		}, [][]string{lower}},
		{"a constructor", func(n string) api.Module {
			return withData(api.Data{Name: "T", Cons: []api.Con{{Name: "C"}, {Name: n}}})
		}, [][]string{upper}},
		{"a fixity", func(n string) api.Module { return withFix(api.Fixity{Op: n}) }, [][]string{lower, op}},
		{"a signature", func(n string) api.Module {
			return api.Module{Name: "M", Sigs: []api.Sig{{Name: n, Type: tyVar("a")}}}
		}, [][]string{lower, op}},
		{"a clause", func(n string) api.Module { return withClause(clause(n, num(1))) }, [][]string{lower, op}},
		{"a let's clause", func(n string) api.Module { return withBody(let(num(1), clause("f", num(1)), clause(n, num(1)))) }, [][]string{lower, op}},
		{"a type's variable", func(n string) api.Module { return withType(fun(tyVar("a"), tyVar(n))) }, [][]string{lower}},
		{"a type of no arguments", func(n string) api.Module { return withType(data(n)) }, [][]string{upper, qupper, {"()"}}},
		{"a type of one", func(n string) api.Module { return withType(data(n, tyVar("a"))) }, [][]string{upper, qupper, {"[]"}}},
		{"a type of two", func(n string) api.Module { return withType(data(n, tyVar("a"), tyVar("a"))) }, [][]string{upper, qupper, {"(,)"}}},
		{"a type of three", func(n string) api.Module { return withType(data(n, tyVar("a"), tyVar("a"), tyVar("a"))) }, [][]string{upper, qupper, {"(,,)"}}},
		{"a type of four", func(n string) api.Module { return withType(data(n, tyVar("a"), tyVar("a"), tyVar("a"), tyVar("a"))) }, [][]string{upper, qupper}},
		{"a pattern's variable", func(n string) api.Module { return withPat(patVar(n)) }, [][]string{lower}},
		{"a pattern of no arguments", func(n string) api.Module { return withPat(patCon(n)) }, [][]string{upper, qupper, {"()", "[]"}}},
		{"a pattern of one", func(n string) api.Module { return withPat(patCon(n, wild())) }, [][]string{upper, qupper}},
		{"a pattern of two", func(n string) api.Module { return withPat(patCon(n, wild(), wild())) }, [][]string{upper, qupper, {":", "(,)"}}},
		{"a pattern of three", func(n string) api.Module { return withPat(patCon(n, wild(), wild(), wild())) }, [][]string{upper, qupper, {"(,,)"}}},
		{"a pattern of four", func(n string) api.Module { return withPat(patCon(n, wild(), wild(), wild(), wild())) }, [][]string{upper, qupper}},
		{"a variable", func(n string) api.Module { return withBody(named(n)) }, [][]string{lower, qlower, op}},
		{"a constructor alone", func(n string) api.Module { return withBody(con(n)) }, [][]string{upper, qupper, {":", "[]", "()"}}},
		{"one as an argument", func(n string) api.Module { return withBody(app(named("a"), con(n), num(1))) }, [][]string{upper, qupper, {":", "[]", "()"}}},
		{"one of one", func(n string) api.Module { return withBody(app(con(n), num(1))) }, [][]string{upper, qupper, {":", "[]", "()"}}},
		{"one of two", func(n string) api.Module { return withBody(app(con(n), num(1), num(2))) }, [][]string{upper, qupper, {":", "[]", "()", "(,)"}}},
		{"one of three", func(n string) api.Module { return withBody(app(con(n), num(1), num(2), num(3))) }, [][]string{upper, qupper, made}},
		{"one of four", func(n string) api.Module { return withBody(app(con(n), num(1), num(2), num(3), num(4))) }, [][]string{upper, qupper, made}},
		{"an operator that is a variable", func(n string) api.Module { return withBody(flat(num(1), named(n), num(2))) }, [][]string{lower, qlower, op}},
		{"an operator that is a constructor", func(n string) api.Module { return withBody(flat(num(1), con(n), num(2))) }, [][]string{upper, qupper, {":"}}},
		{"that of a left section", func(n string) api.Module { return withBody(left(num(1), con(n))) }, [][]string{upper, qupper, {":"}}},
		{"that of a right section", func(n string) api.Module { return withBody(right(con(n), num(1))) }, [][]string{upper, qupper, {":"}}},
		{"an operand in a section", func(n string) api.Module { return withBody(right(named("+"), con(n))) }, [][]string{upper, qupper, {":", "[]", "()"}}},
	} {
		may := map[string]bool{}
		for _, l := range place.may {
			for _, n := range l {
				may[n] = true
			}
		}
		for _, l := range [][]string{lower, upper, qlower, qupper, op, none, made} {
			for _, n := range l {
				m := place.in(n)
				text, code := syntax.Print(m)
				if !may[n] {
					if text != "" || code != api.ErrSyntaxTree {
						t.Errorf("%q as %s: Print = %q, %v; want ErrSyntaxTree", n, place.name, text, code)
					}
					continue
				}
				if back, err := syntax.Parse(text); code != api.OK || err != nil || !same(back, m) {
					t.Errorf("%q as %s: Print = %q, %v; Parse of it %v, %v", n, place.name, text, code, back, err)
				}
			}
		}
	}
}

func TestRefusedDeclarations(t *testing.T) {
	one := []api.Con{{Name: "C"}}
	for _, m := range []api.Module{
		{},
		{Name: "M", Text: 1}, {Name: "M", Text: -1},
		withImport(api.Import{}), withImport(api.Import{Module: "N", Names: []string{"f"}}),
		withData(api.Data{}), withData(api.Data{Name: "T"}), withData(api.Data{Name: "T", Cons: []api.Con{{}}}), withData(api.Data{Name: "T", Cons: append(one, api.Con{Name: "D", Fields: []api.Type{tyVar("a"), {}}})}),
		withFix(api.Fixity{}), withFix(api.Fixity{Op: "+", Level: -1}), withFix(api.Fixity{Op: "+", Level: 10}), withFix(api.Fixity{Op: "+", Assoc: 3}), withFix(api.Fixity{Op: "+", Assoc: -1}),
		{Name: "M", Sigs: []api.Sig{{}}}, {Name: "M", Sigs: []api.Sig{{Name: "f"}}}, {Name: "M", Clauses: []api.Clause{{}}}, {Name: "M", Clauses: []api.Clause{{Name: "f"}}},
	} {
		checkRefused(t, m, api.ErrSyntaxTree)
	}
	for level := range 10 {
		for assoc, word := range []string{"infix", "infixl", "infixr"} {
			checkPrint(t, withFix(api.Fixity{Op: "+", Assoc: assoc, Level: level}), "module M;\n"+word+" "+string(rune('0'+level))+" +;\n")
		}
	}
}

func TestRefusedTrees(t *testing.T) {
	a, wildcards := tyVar("a"), []api.Pat{wild()}
	for _, x := range []api.Type{
		{}, {Kind: 5}, {Kind: api.TyInt}, {Kind: api.TyInt, Name: "Int"}, {Kind: api.TyVar, Name: "a", Args: []api.Type{a}}, {Kind: api.TyFun}, {Kind: api.TyFun, Args: []api.Type{a}}, {Kind: api.TyFun, Args: []api.Type{a, a, a}}, {Kind: api.TyFun, Name: "->", Args: []api.Type{a, a}}, {Kind: api.TyFun, Args: []api.Type{a, {}}}, {Kind: api.TyData}, data("T", a, api.Type{Kind: api.TyInt}), data("[]", data("[]")),
	} {
		checkRefused(t, withType(x), api.ErrSyntaxTree)
		checkRefused(t, withType(data("T", x)), api.ErrSyntaxTree)
		checkRefused(t, withData(api.Data{Name: "T", Cons: []api.Con{{Name: "C", Fields: []api.Type{a, x}}}}), api.ErrSyntaxTree)
	}
	for _, p := range []api.Pat{
		{}, {Kind: 5}, {Kind: api.PatWild, Name: "_"}, {Kind: api.PatWild, Num: 1}, {Kind: api.PatWild, Args: wildcards}, {Kind: api.PatVar}, {Kind: api.PatVar, Name: "x", Num: 1}, {Kind: api.PatVar, Name: "x", Args: wildcards}, patInt(-1), patInt(api.MinInt), patInt(api.MaxInt + 1), {Kind: api.PatInt, Name: "1", Num: 1}, {Kind: api.PatInt, Args: wildcards}, {Kind: api.PatCon}, {Kind: api.PatCon, Name: "C", Num: 1}, patCon("C", api.Pat{}), patCon(":", wild(), patInt(-1)),
	} {
		checkRefused(t, withPat(p), api.ErrSyntaxTree)
		checkRefused(t, withPat(patCon("C", wild(), p)), api.ErrSyntaxTree)
		checkRefused(t, withBody(lam(num(1), wild(), p)), api.ErrSyntaxTree)
		checkRefused(t, withBody(let(num(1), clause("f", num(1), p))), api.ErrSyntaxTree)
		checkRefused(t, withBody(cases(num(1), alt(wild(), num(1)), alt(p, num(1)))), api.ErrSyntaxTree)
	}
	for _, x := range refusedTerms() {
		for _, body := range []api.Term{
			x, app(x, num(1)), app(num(1), x), flat(num(1), named("+"), x), flat(x, named("+"), num(1)), left(x, named("+")), right(named("+"), x), lam(x, wild()), let(x, clause("f", num(1))), let(num(1), clause("f", x)),
			cond(x, num(1), num(1)), cond(num(1), x, num(1)), cond(num(1), num(1), x), cases(x, alt(wild(), num(1))), cases(num(1), alt(wild(), x)), list(x), app(con("(,)"), x, num(1)),
		} {
			checkRefused(t, withBody(body), api.ErrSyntaxTree)
		}
	}
}

func refusedTerms() []api.Term {
	one, plus := num(1), named("+")
	l := []api.Term{
		{}, {Kind: 12}, {Kind: -1}, {Kind: api.TermVar}, {Kind: api.TermCon}, num(-1), num(api.MinInt), num(api.MaxInt + 1),
		{Kind: api.TermApp}, {Kind: api.TermApp, Args: []api.Term{one}}, {Kind: api.TermApp, Args: []api.Term{one, one, one}},
		flat(), flat(one), flat(one, plus), flat(one, plus, one, plus), flat(plus, one, plus), flat(one, one, one), flat(one, plus, one, app(plus, one), one), flat(one, lam(one, wild()), one), flat(one, con("[]"), one), flat(one, con("()"), one), flat(one, con("(,)"), one),
		left(), left(one), left(plus, one), left(one, plus, one), left(one, one), left(one, plus, one, one), left(one, con("()")),
		right(), right(plus), right(one, plus), right(plus, one, plus), right(one, one), right(plus, one, one, one), right(con("[]"), one),
		lam(one), {Kind: api.TermLam, Pats: []api.Pat{wild()}}, {Kind: api.TermLam, Pats: []api.Pat{wild()}, Args: []api.Term{one, one}},
		let(one), {Kind: api.TermLet, Clauses: []api.Clause{clause("f", one)}}, {Kind: api.TermLet, Clauses: []api.Clause{clause("f", one)}, Args: []api.Term{one, one}},
		cond(), cond(one, one), cond(one, one, one, one),
		cases(one), {Kind: api.TermCase, Alts: []api.Branch{alt(wild(), one)}}, {Kind: api.TermCase, Alts: []api.Branch{alt(wild(), one)}, Args: []api.Term{one, one}},
		app(app(one, con("(,)")), one), flat(con("(,)"), plus, one), app(con("(,)"), con("(,)"), one),
	}
	// Of each kind one that is right, with one field more.
	for _, x := range []api.Term{named("a"), con("C"), one, app(one, one), flat(one, plus, one), left(one, plus), right(plus, one), lam(one, wild()), let(one, clause("f", one)), cond(one, one, one), cases(one, alt(wild(), one))} {
		if x.Kind != api.TermVar && x.Kind != api.TermCon {
			y := x
			y.Name = "a"
			l = append(l, y)
		}
		if x.Kind != api.TermInt {
			y := x
			y.Num = 1
			l = append(l, y)
		}
		if len(x.Args) == 0 {
			y := x
			y.Args = []api.Term{one}
			l = append(l, y)
		}
		if len(x.Pats) == 0 {
			y := x
			y.Pats = []api.Pat{wild()}
			l = append(l, y)
		}
		if len(x.Clauses) == 0 {
			y := x
			y.Clauses = []api.Clause{clause("f", one)}
			l = append(l, y)
		}
		if len(x.Alts) == 0 {
			y := x
			y.Alts = []api.Branch{alt(wild(), one)}
			l = append(l, y)
		}
	}
	return l
}

// W5: an empty list is as none.
func TestEmptyLists(t *testing.T) {
	empty := func(kind int, name string, n int) api.Term {
		return api.Term{Kind: kind, Name: name, Num: n, Args: []api.Term{}, Pats: []api.Pat{}, Clauses: []api.Clause{}, Alts: []api.Branch{}}
	}
	checkPrint(t, api.Module{
		Name: "M", Imports: []api.Import{{Module: "N", Names: []string{}}}, Datas: []api.Data{{Name: "T", Params: []string{}, Cons: []api.Con{{Name: "C", Fields: []api.Type{}}}}}, Fixes: []api.Fixity{}, Sigs: []api.Sig{{Name: "f", Type: api.Type{Kind: api.TyVar, Name: "a", Args: []api.Type{}}}},
		Clauses: []api.Clause{{Name: "f", Pats: []api.Pat{}, Body: app(empty(api.TermVar, "a", 0), empty(api.TermCon, "C", 0), empty(api.TermInt, "", 7))}, clause("f", num(1), api.Pat{Kind: api.PatWild, Args: []api.Pat{}}, api.Pat{Kind: api.PatCon, Name: "[]", Args: []api.Pat{}})},
	}, "module M;\nimport N;\ndata T = C;\nf :: a;\nf = a C 7;\nf _ [] = 1;\n")
}

// The limits of trees: P2.6.

func nested(n int, in func(api.Term) api.Term, x api.Term) api.Term {
	for range n {
		x = in(x)
	}
	return x
}

func TestTreesAtLimits(t *testing.T) {
	a := named("a")
	long := make([]api.Pat, 999)
	for i := range long {
		long[i] = wild()
	}
	for _, in := range []func(api.Term) api.Term{
		func(x api.Term) api.Term { return app(x, a) },
		func(x api.Term) api.Term { return app(a, x) },
		func(x api.Term) api.Term { return lam(x, wild()) },
		func(x api.Term) api.Term { return let(x, clause("f", a)) },
		func(x api.Term) api.Term { return let(a, clause("f", x)) },
		func(x api.Term) api.Term { return cond(x, a, a) },
		func(x api.Term) api.Term { return cond(a, a, x) },
		func(x api.Term) api.Term { return cases(x, alt(wild(), a)) },
		func(x api.Term) api.Term { return cases(a, alt(wild(), x)) },
		func(x api.Term) api.Term { return flat(a, named("+"), x) },
		func(x api.Term) api.Term { return left(x, named("+")) },
		func(x api.Term) api.Term { return right(named("+"), x) },
	} {
		deepest := nested(999, in, a)
		checkBack(t, withBody(deepest))
		checkRefused(t, withBody(in(deepest)), api.ErrSyntaxTree)
		checkRefused(t, withBody(nested(60000, in, a)), api.ErrSyntaxTree)
	}
	checkBack(t, withPat(patList(long...)))
	checkBack(t, withBody(lam(a, patList(long[:998]...))))
	checkRefused(t, withBody(lam(a, patList(long...))), api.ErrSyntaxTree)
	checkRefused(t, withBody(let(a, clause("f", a, patList(long...)))), api.ErrSyntaxTree)
	checkRefused(t, withBody(cases(a, alt(patList(long...), a))), api.ErrSyntaxTree)
	checkRefused(t, withPat(patCon("C", patList(long...))), api.ErrSyntaxTree)

	wide := make([]api.Type, 499)
	for i := range wide {
		wide[i] = tyVar("a")
	}
	many := func(x api.Type) api.Module {
		return withData(api.Data{Name: "T", Cons: []api.Con{{Name: "C"}, {Name: "D", Fields: []api.Type{tyVar("a"), x, x}}}})
	}
	checkBack(t, withType(data("T", wide...)))
	checkBack(t, many(data("T", wide...)))
	checkRefused(t, withType(data("[]", data("T", wide...))), api.ErrSyntaxTree)
	checkRefused(t, withType(data("T", append(wide, tyVar("a"))...)), api.ErrSyntaxTree)
	checkRefused(t, many(data("[]", data("T", wide...))), api.ErrSyntaxTree)
	deep := tyVar("a")
	for range 499 {
		deep = data("[]", deep)
	}
	checkBack(t, withType(deep))
	for range 60000 {
		deep = data("[]", deep)
	}
	checkRefused(t, withType(deep), api.ErrSyntaxTree)
}

// The limits of texts: P2.7.

func TestTextsAtLimits(t *testing.T) {
	name := strings.Repeat("x", api.MaxText-len("module M;\nf = ;\n"))
	checkBack(t, withBody(named(name)))
	checkRefused(t, withBody(named(name+"x")), api.ErrBig)
	checkRefused(t, withBody(named(strings.Repeat("x", 1<<20))), api.ErrBig)
	checkRefused(t, api.Module{Name: strings.Repeat("M", 1<<20)}, api.ErrBig)
	// What is no module is told ahead of what is too long.
	checkRefused(t, withBody(app(named(name+"x"), num(-1))), api.ErrSyntaxTree)

	row := []api.Term{num(1)} // 3, 2, 19993 and 1 tokens
	for range 9996 {
		row = append(row, named("+"), num(1))
	}
	for pats, want := range map[int]api.Errno{0: api.OK, 1: api.OK, 2: api.ErrBig, 3: api.ErrBig} {
		m := withClause(clause("f", flat(row...), make([]api.Pat, pats)...))
		for i := range pats {
			m.Clauses[0].Pats[i] = wild()
		}
		if want != api.OK {
			checkRefused(t, m, want)
			continue
		}
		checkBack(t, m)
		text, _ := syntax.Print(m)
		if l, err := lex.Lex(text); err != nil || len(l) != api.MaxTokens-1+pats {
			t.Error(len(l), err)
		}
	}

	// Three brackets for two levels.
	in := func(x api.Term) api.Term { return right(named("+"), let(named("a"), clause("f", x))) }
	for _, x := range []struct {
		inner api.Term
		want  api.Errno
	}{{con("C"), api.OK}, {named("+"), api.OK}, {con("()"), api.OK}, {con("[]"), api.OK}, {list(num(1)), api.OK}, {right(named("+"), con("[]")), api.ErrBig}, {cases(num(1), alt(patCon("()"), num(1))), api.ErrBig}, {in(num(1)), api.ErrBig}} {
		m := withBody(nested(333, in, x.inner))
		if x.want == api.OK {
			checkBack(t, m)
		} else {
			checkRefused(t, m, x.want)
		}
	}
	// Brackets that are closed again don't count.
	checkBack(t, withBody(flat(nested(333, in, con("()")), named("+"), nested(333, in, con("()")))))
}

// checkBack: Print writes the module, and Parse reads it again (P2.8).
func checkBack(t *testing.T, m api.Module) {
	t.Helper()
	text, code := syntax.Print(m)
	back, err := syntax.Parse(text)
	if code != api.OK || err != nil || !same(back, m) {
		t.Errorf("Print(%s) = %s, %v; Parse of it: %s, %v", short(m), short(text), code, short(back), err)
	}
}
