package fixity_test

import (
	"testing"

	"sloth/api"
	"sloth/fixity"
	"sloth/scope"
)

// P4.1: rows and their trees.

func TestExamples(t *testing.T) {
	for _, x := range []struct{ body, want string }{
		{"a + b * c", "((+ a) ((* b) c))"},
		{"a - b - c", "((- ((- a) b)) c)"},
		{"a : b : []", "((Cons a) ((Cons b) Nil))"},
		{"a <+> b + c", "((+ ((M.<+> a) b)) c)"},
		{"a + b == c * d", "((== ((+ a) b)) ((* c) d))"},
		{"a `f` b c * d", "((* ((M.f a) (b c))) d)"},
		{"(a * b +)", "(+ ((* a) b))"},
		{"(a + b +)", "(+ ((+ a) b))"},
		{"(+ a * b)", "{right + ((* a) b)}"},
		{"(+> a +> b)", "{right M.+> ((M.+> a) b)}"},
		{`\x -> x + 1 * 2`, `{\ ((+ x) ((* 1) 2))}`},
	} {
		checkBody(t, x.body, x.want)
	}
	for _, body := range []string{"a <+> b +> c", "a ? b ? c", "a == b ? c", "(a <+> b +>)"} {
		checkBad(t, body, api.ErrFixMix)
	}
	for _, body := range []string{"(a + b *)", "(a +> b +>)", "(* a + b)", "(+ a + b)"} {
		checkBad(t, body, api.ErrFixSection)
	}
}

func TestRowsOfOneLevel(t *testing.T) {
	checkBody(t, "a", "a")
	checkBody(t, "a b c", "((a b) c)")
	checkBody(t, "a + b", "((+ a) b)")
	checkBody(t, "a ? b", "((M.? a) b)")
	checkBody(t, "a + b - c <+> d + a", "((+ ((M.<+> ((- ((+ a) b)) c)) d)) a)")
	checkBody(t, "a +> b +> c +> d", "((M.+> a) ((M.+> b) ((M.+> c) d)))")
	checkBody(t, "a >> b >> c", "((M.>> a) ((M.>> b) c))")
	checkBody(t, "a << b << c", "((M.<< ((M.<< a) b)) c)")
	checkBody(t, "a `pow` b `pow` c", "((M.pow a) ((M.pow b) c))")
}

func TestRowsOfSeveralLevels(t *testing.T) {
	checkBody(t, "a * b + c * d", "((+ ((* a) b)) ((* c) d))")
	checkBody(t, "a + b * c + d", "((+ ((+ a) ((* b) c))) d)")
	checkBody(t, "a : b + c : d * a : []", "((Cons a) ((Cons ((+ b) c)) ((Cons ((* d) a)) Nil)))")
	checkBody(t, "a ? b << c ? d << a", "((M.<< ((M.<< ((M.? a) b)) ((M.? c) d))) a)")
	checkBody(t, "a ? b >> c ? d >> a ? b", "((M.>> ((M.? a) b)) ((M.>> ((M.? c) d)) ((M.? a) b)))")
	checkBody(t, "a >> b : c +> d * a", "((M.>> a) ((Cons b) ((M.+> c) ((* d) a))))")
	checkBody(t, "a * b +> c : d >> a", "((M.>> ((Cons ((M.+> ((* a) b)) c)) d)) a)")
	// Operators of a level that do not go together may stand in one row, if weaker ones part them.
	checkBody(t, "a <+> b : c +> d", "((Cons ((M.<+> a) b)) ((M.+> c) d))")
	checkBody(t, "a == b << c ? d << a < b", "((M.<< ((M.<< ((== a) b)) ((M.? c) d))) ((< a) b))")
	checkBody(t, "a << (b >> c) << d", "((M.<< ((M.<< a) ((M.>> b) c))) d)")
}

// Each operator that is built in, beside one of its level and ones of the levels around it.
func TestBuiltIn(t *testing.T) {
	for _, op := range []string{"*", "/", "%"} {
		checkBody(t, "a * b "+op+" c", "(("+op+" ((* a) b)) c)")
		checkBody(t, "a "+op+" b * c", "((* (("+op+" a) b)) c)")
		checkBody(t, "a <+> b "+op+" c", "((M.<+> a) (("+op+" b) c))")
		checkBody(t, "a "+op+" b `f` c", "(("+op+" a) ((M.f b) c))")
		checkBad(t, "a "+op+" b `pow` c", api.ErrFixMix)
	}
	for _, op := range []string{"+", "-"} {
		checkBody(t, "a <+> b "+op+" c", "(("+op+" ((M.<+> a) b)) c)")
		checkBody(t, "a "+op+" b `pow` c", "(("+op+" a) ((M.pow b) c))")
		checkBody(t, "a "+op+" b : c", "((Cons (("+op+" a) b)) c)")
		checkBad(t, "a "+op+" b +> c", api.ErrFixMix)
	}
	checkBody(t, "a : b : c", "((Cons a) ((Cons b) c))")
	checkBody(t, "a : b +> c", "((Cons a) ((M.+> b) c))")
	checkBody(t, "a ? b : c", "((M.? a) ((Cons b) c))")
	for _, op := range []string{"==", "/=", "<", "<=", ">", ">="} {
		checkBody(t, "a : b "+op+" c : d", "(("+op+" ((Cons a) b)) ((Cons c) d))")
		checkBody(t, "a >> b "+op+" c", "((M.>> a) (("+op+" b) c))")
		checkBad(t, "a "+op+" b "+op+" c", api.ErrFixMix)
		checkBad(t, "a "+op+" b ? c", api.ErrFixMix)
	}
	// All others are left, 9.
	checkBody(t, "a `seq` b `stop` c * d", "((* ((stop ((seq a) b)) c)) d)")
	checkBody(t, "a * b `True` c `seq` d", "((* a) ((seq ((True b) c)) d))")
}

func TestNamesWithoutFixity(t *testing.T) {
	checkBody(t, "a `f` b `f` c", "((M.f ((M.f a) b)) c)")
	checkBody(t, "a * b $ c $ d", "((* a) ((M.$ ((M.$ b) c)) d))")
	checkBody(t, "a * b `K` c `M.f` d", "((* a) ((M.f ((M.K b) c)) d))")
	checkBody(t, "a * b `a` c `b` d", "((* a) ((b ((a b) c)) d))")
	checkBad(t, "a `f` b ! c", api.ErrFixMix) // both 9, the one left, the other none
	checkBad(t, "a ! b `c` d", api.ErrFixMix)
	checkBody(t, "a ! b * c `f` d", "((* ((M.! a) b)) ((M.f c) d))")
}

// A local has no fixity of its own, whatever the operator has that it hides.
func TestLocals(t *testing.T) {
	checkBody(t, "let { (+++) a b = a; y = 1 +++ 2 * 3 } in y", "{let +++ = a; y = ((* ((+++ 1) 2)) 3); y}")
	checkBody(t, "let { (>>) a b = a >> b * c } in a >> b >> c", "{let >> = ((* ((>> a) b)) c); ((>> ((>> a) b)) c)}")
	checkBody(t, "(let { (>>) a b = a } in a >> b >> c) >> b >> c", "((M.>> {let >> = a; ((>> ((>> a) b)) c)}) ((M.>> b) c))")
	checkBody(t, `\pow -> a `+"`pow` b `pow` c * d", `{\ ((* ((pow ((pow a) b)) c)) d)}`)
	checkBody(t, `\pow -> a `+"`M.pow` b `M.pow` c", `{\ ((M.pow a) ((M.pow b) c))}`)
	checkBody(t, "case a of { f -> a + b `f` c; pow : _ -> a `pow` b `pow` c }", "{case a; ((+ a) ((f b) c)); ((pow ((pow a) b)) c)}")
	checkBody(t, "let { (.+) a b = a } in a .+ b .+ c + d", "{let .+ = a; ((+ ((.+ ((.+ a) b)) c)) d)}")
}

func TestSections(t *testing.T) {
	for _, x := range []struct{ body, want string }{
		{"(a +)", "(+ a)"},
		{"(+ a)", "{right + a}"},
		{"(a :)", "(Cons a)"},
		{"(: a)", "{right Cons a}"},
		{"(a ?)", "(M.? a)"},
		{"(? a)", "{right M.? a}"},
		{"(a `f`)", "(M.f a)"},
		{"(`f` a b)", "{right M.f (a b)}"},
		{"(a `K`)", "(M.K a)"},
		{"(`seq` a)", "{right seq a}"},
		// Its operator is the only weakest one.
		{"(a * b `f` c +)", "(+ ((* a) ((M.f b) c)))"},
		{"(+ a `f` b * c)", "{right + ((* ((M.f a) b)) c)}"},
		{"(a +> b * c ?)", "(M.? ((M.+> a) ((* b) c)))"},
		{"(? a +> b * c)", "{right M.? ((M.+> a) ((* b) c))}"},
		// Or one of several: on the left that may be, if they are left; on the right, if they are right.
		{"(a + b <+> c -)", "(- ((M.<+> ((+ a) b)) c))"},
		{"(a + b * c + d <+>)", "(M.<+> ((+ ((+ a) ((* b) c))) d))"},
		{"(: a : b)", "{right Cons ((Cons a) b)}"},
		{"(>> a * b >> c ? d)", "{right M.>> ((M.>> ((* a) b)) ((M.? c) d))}"},
		{"(a `f` b `f`)", "(M.f ((M.f a) b))"},
		{"(`pow` a `pow` b)", "{right M.pow ((M.pow a) b)}"},
	} {
		checkBody(t, x.body, x.want)
	}
	for _, body := range []string{
		"(a +> b +> c +>)", "(a : b :)", "(a >> b * c >>)", "(- a <+> b)", "(+ a - b - c)", "(`f` a `f` b)", "(a + b * c *)", "(a ? b +)", "(+ a ? b)",
		"(: a << b)", "(a << b :)", "(`f` a * b)", "(a * b `f`)", "(* a * b + c)", "(a + b ? c + d +)",
	} {
		checkBad(t, body, api.ErrFixSection)
	}
}

// What a section lacks is an operand, whose place counts for the whole row.
func TestSectionsWithoutTree(t *testing.T) {
	for _, body := range []string{
		"(a ? b ?)", "(? a ? b)", "(a == b ?)", "(<= a ? b)", "(+> a + b)", "(a + b +>)", "(a ! b `f`)", "(! a ! b)",
		// The fault lies in a row within.
		"(a <+> b +> c ?)", "(? a <+> b +> c)", "(a << b ? c ? d <<)", "(>> a ? b ? c >> d)", "(a ? b ? c + d +)", "(+ a + b ? c ? d)",
		// The root is another operator too, but without a tree that counts for nothing.
		"(a ? b ? c * d +)", "(* a ? b == c)", "(a << b >> c <<)", "(+ a + b ? c <+> d +> a)",
	} {
		checkBad(t, body, api.ErrFixMix)
	}
}

func TestRowsWithin(t *testing.T) {
	for _, x := range []struct{ body, want string }{
		{"(a + b) * c", "((* ((+ a) b)) c)"},
		{"a - (b - c)", "((- a) ((- b) c))"},
		{"(((a - b))) - c", "((- ((- a) b)) c)"},
		{"f (a + b) (c * d)", "((M.f ((+ a) b)) ((* c) d))"},
		{"(a + b) c", "(((+ a) b) c)"},
		{"(a + b, c * d)", "((Pair ((+ a) b)) ((* c) d))"},
		{"(a + b, c : d, a)", "(((Triple ((+ a) b)) ((Cons c) d)) a)"},
		{"[a + b, c - d - a]", "((Cons ((+ a) b)) ((Cons ((- ((- c) d)) a)) Nil))"},
		{`a + \x -> x + 1 * 2`, `((+ a) {\ ((+ x) ((* 1) 2))})`},
		{`\x -> \y -> x - y - 1`, `{\ {\ ((- ((- x) y)) 1)}}`},
		{"if a == b then a + b else c * d + a", "{if ((== a) b) ((+ a) b) ((+ ((* c) d)) a)}"},
		{"a * if a then b else c + d", "((* a) {if a b ((+ c) d)})"},
		{"let { y = a + b * c; g x = x : y : [] } in y + g * a", "{let y = ((+ a) ((* b) c)); g = ((Cons x) ((Cons y) Nil)); ((+ y) ((* g) a))}"},
		{"case a + b of { 1 -> a - b - c; x : _ -> x * 2 + 1; _ -> (a +) }", "{case ((+ a) b); ((- ((- a) b)) c); ((+ ((* x) 2)) 1); (+ a)}"},
		{"case a of { x -> x + 1 } + b", "((+ {case a; ((+ x) 1)}) b)"},
		{"(+ (a - b - c))", "{right + ((- ((- a) b)) c)}"},
		{"((a - b - c) + (+ 1) +)", "(+ ((+ ((- ((- a) b)) c)) {right + 1}))"},
		{"(a +) + (+ b) * (c + d -)", "((+ (+ a)) ((* {right + b}) (- ((+ c) d))))"},
		{"(+) + (:) * a", "((+ +) ((* Cons) a))"},
		{`"ab" : []`, "((Cons ((Cons 97) ((Cons 98) Nil))) Nil)"},
	} {
		checkBody(t, x.body, x.want)
	}
}

// Fixities come with the definition: wherever it is named, with its module or without, and whatever the text's number is.
func TestOtherModules(t *testing.T) {
	lib := "module Lib; infixr 5 ++; infix 3 `at`; (++) a b = a; at a b = a; f a b = a;"
	user := "module User; import Lib; infixl 5 <++; (<++) a b = a; x a b c = a `at` b ++ c ++ a; y a b c = a `Lib.at` b `f` c : b ++ c; z a b c = a <++ b <++ c;"
	hidden := "module Own; import Lib (at); (++) a b = a; f a b = a; x a b c = a ++ b ++ c `at` a; y a b c = a ++ b : c;"
	for _, texts := range [][]string{{lib, user, hidden}, {hidden, user, lib}, {user, hidden, lib}} {
		l, err := fixity.Resolve(texts)
		if err != nil || len(l) != 3 {
			t.Fatal(err, len(l))
		}
		bodies := map[string]string{}
		for _, m := range l {
			for _, c := range m.Clauses {
				bodies[c.Name] = told(c.Body)
			}
		}
		for name, want := range map[string]string{
			"User.x": "((Lib.at a) ((Lib.++ b) ((Lib.++ c) a)))",
			"User.y": "((Lib.at a) ((Cons ((Lib.f b) c)) ((Lib.++ b) c)))",
			"User.z": "((User.<++ ((User.<++ a) b)) c)",
			"Own.x":  "((Lib.at ((Own.++ ((Own.++ a) b)) c)) a)",
			"Own.y":  "((Cons ((Own.++ a) b)) c)",
		} {
			if bodies[name] != want {
				t.Errorf("%s: %s, want %s", name, bodies[name], want)
			}
		}
	}
	checkFault(t, []string{"module A; import Lib; infixl 5 ++++; (++++) a b = a; x a b c = a ++++ b ++ c;", lib}, api.Fault{Code: api.ErrFixMix, Text: 0, At: -1, Name: "A.x"})
}

// All but the bodies of the clauses is as Bind tells it.
func TestAllElse(t *testing.T) {
	texts := []string{
		"module A; import B (g, T); import C; infixr 3 +++, `x`; data U a = V a (T a) | W; x :: a -> Int -> a; (+++) :: a -> b -> a; x a 1 = a +++ 1 * 2; x (V _ _) _ = c; (+++) a b = a; y = \\(p : [3]) -> 1;",
		"module B; import C; data T a = K [a]; g :: (T Int, Bool); g = c : c + c;",
		"module C; infix 2 `c`; c = 1;",
	}
	bound, _, err := scope.Bind(texts)
	if err != nil {
		t.Fatal(err)
	}
	got, err := fixity.Resolve(texts)
	if err != nil || len(got) != len(bound) {
		t.Fatal(err, len(got))
	}
	if order := got[0].Name + got[1].Name + got[2].Name; order != "CBA" {
		t.Error("the order of the modules:", order)
	}
	for i := range bound {
		if len(got[i].Clauses) != len(bound[i].Clauses) {
			t.Fatal("the clauses of", bound[i].Name)
		}
		for j := range bound[i].Clauses {
			bound[i].Clauses[j].Body = got[i].Clauses[j].Body
		}
	}
	if !same(got, bound) {
		t.Errorf("got  %+v\nwant %+v", got, bound)
	}
}

func TestNothing(t *testing.T) {
	for _, texts := range [][]string{nil, {}} {
		if l, err := fixity.Resolve(texts); err != nil || len(l) != 0 {
			t.Error(l, err)
		}
	}
	checkTaken(t, "module M;")
}
