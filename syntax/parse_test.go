package syntax_test

import (
	"reflect"
	"strings"
	"testing"

	"sloth/api"
	"sloth/syntax"
)

func checkModule(t *testing.T, text string, want api.Module) {
	t.Helper()
	got, err := syntax.Parse(text)
	if err != nil || !same(got, want) {
		t.Errorf("Parse(%s) = %s, %v; want %s", short(text), short(got), err, short(want))
	}
}

func checkFault(t *testing.T, text string, code api.Errno, at int) {
	t.Helper()
	got, err := syntax.Parse(text)
	fault, ok := api.Seen(err)
	want := api.Fault{Code: code, At: at}
	if err == nil || !ok || fault != want || !reflect.DeepEqual(got, api.Module{}) {
		t.Errorf("Parse(%s) = %s, %v; want nothing, %v", short(text), short(got), err, &want)
	}
}

func checkTaken(t *testing.T, text string) {
	t.Helper()
	if _, err := syntax.Parse(text); err != nil {
		t.Errorf("Parse(%s): %v", short(text), err)
	}
}

// P2.2.

func TestModules(t *testing.T) {
	checkModule(t, "module M;", api.Module{Name: "M"})
	checkModule(t, " module{-a module-}M'_1\n; -- no more", api.Module{Name: "M'_1"})
	checkModule(t, "module M; import N (f, (+), T); import O; import P (); import Q (T);", api.Module{Name: "M", Imports: []api.Import{
		{Module: "N", Some: true, Names: []string{"f", "+", "T"}}, {Module: "O"}, {Module: "P", Some: true}, {Module: "Q", Some: true, Names: []string{"T"}},
	}})
	checkModule(t, "module M; data T = A; data L a b = E | C a (L a b) Int | D;", api.Module{Name: "M", Datas: []api.Data{
		{Name: "T", Cons: []api.Con{{Name: "A"}}},
		{Name: "L", Params: []string{"a", "b"}, Cons: []api.Con{{Name: "E"}, {Name: "C", Fields: []api.Type{tyVar("a"), data("L", tyVar("a"), tyVar("b")), data("Int")}}, {Name: "D"}}},
	}})
	checkModule(t, "module M; infixl 6 +, `f`; infixr 0 -->; infix 9 .;", api.Module{Name: "M", Fixes: []api.Fixity{
		{Op: "+", Assoc: api.AssocLeft, Level: 6}, {Op: "f", Assoc: api.AssocLeft, Level: 6}, {Op: "-->", Assoc: api.AssocRight, Level: 0}, {Op: ".", Assoc: api.AssocNone, Level: 9},
	}})
	checkModule(t, "module M; f :: a; (+) :: b;", api.Module{Name: "M", Sigs: []api.Sig{{Name: "f", Type: tyVar("a")}, {Name: "+", Type: tyVar("b")}}})
	checkModule(t, "module M; f = 1; f x 2 = 3; (+) x y = x;", api.Module{Name: "M", Clauses: []api.Clause{
		clause("f", num(1)), clause("f", num(3), patVar("x"), patInt(2)), clause("+", named("x"), patVar("x"), patVar("y")),
	}})
}

// The kinds are kept apart, and each in its order, however the declarations are mixed.
func TestMixedDeclarations(t *testing.T) {
	checkModule(t, "module M; import B; import A; g = 1; infix 2 <; data D = X; f :: a; infixr 3 >; f = 2; data C = Y; e :: b; g = 3;", api.Module{
		Name:    "M",
		Imports: []api.Import{{Module: "B"}, {Module: "A"}},
		Datas:   []api.Data{{Name: "D", Cons: []api.Con{{Name: "X"}}}, {Name: "C", Cons: []api.Con{{Name: "Y"}}}},
		Fixes:   []api.Fixity{{Op: "<", Level: 2}, {Op: ">", Assoc: api.AssocRight, Level: 3}},
		Sigs:    []api.Sig{{Name: "f", Type: tyVar("a")}, {Name: "e", Type: tyVar("b")}},
		Clauses: []api.Clause{clause("g", num(1)), clause("f", num(2)), clause("g", num(3))},
	})
}

// P2.3.

func TestTypes(t *testing.T) {
	a, b, c, integer := tyVar("a"), tyVar("b"), tyVar("c"), data("Int")
	for text, want := range map[string]api.Type{
		"a":                      a,
		"Int":                    integer,
		"M.T":                    data("M.T"),
		"a -> b -> c":            fun(a, fun(b, c)),
		"(a -> b) -> c":          fun(fun(a, b), c),
		"Int -> [a] -> (a, Int)": fun(integer, fun(data("[]", a), data("(,)", a, integer))),
		"T a Int":                data("T", a, integer),
		"M.T U M.U a":            data("M.T", data("U"), data("M.U"), a),
		"T (T a) [b] () (a, b)":  data("T", data("T", a), data("[]", b), data("()"), data("(,)", a, b)),
		"T (a -> b) -> U c":      fun(data("T", fun(a, b)), data("U", c)),
		"[T a]":                  data("[]", data("T", a)),
		"[a -> b]":               data("[]", fun(a, b)),
		"[[a]]":                  data("[]", data("[]", a)),
		"()":                     data("()"),
		"(a)":                    a,
		"(((a)))":                a,
		"((T)) -> (())":          fun(data("T"), data("()")),
		"(a, b)":                 data("(,)", a, b),
		"(a, b, c)":              data("(,,)", a, b, c),
		"(T a, a -> b, (a, b))":  data("(,,)", data("T", a), fun(a, b), data("(,)", a, b)),
	} {
		checkModule(t, "module M; f :: "+text+";", withType(want))
	}
	checkModule(t, "module M; data T = C a Int [a] (a, b) (T a) M.T (a -> b) () (c);", withData(api.Data{Name: "T", Cons: []api.Con{{Name: "C", Fields: []api.Type{
		a, integer, data("[]", a), data("(,)", a, b), data("T", a), data("M.T"), fun(a, b), data("()"), c,
	}}}}))
}

// P2.4.

func TestPatterns(t *testing.T) {
	x, y, z := patVar("x"), patVar("y"), patVar("z")
	for text, want := range map[string]api.Pat{
		"x":                   x,
		"_":                   wild(),
		"12":                  patInt(12),
		"0x1f":                patInt(31),
		"4611686018427387903": patInt(api.MaxInt),
		"'a'":                 patInt(97),
		"'\\255'":             patInt(255),
		`"ab"`:                patCon(":", patInt(97), patCon(":", patInt(98), patCon("[]"))),
		`""`:                  patCon("[]"),
		`"\000("`:             patList(patInt(0), patInt(40)),
		"C":                   patCon("C"),
		"M.C":                 patCon("M.C"),
		"(C x y)":             patCon("C", x, y),
		"(M.C (C x) C _ 1)":   patCon("M.C", patCon("C", x), patCon("C"), wild(), patInt(1)),
		"(x : y)":             patCon(":", x, y),
		"(x : y : z)":         patCon(":", x, patCon(":", y, z)),
		"((x : y) : z)":       patCon(":", patCon(":", x, y), z),
		"(C x : M.D y z : _)": patCon(":", patCon("C", x), patCon(":", patCon("M.D", y, z), wild())),
		"()":                  patCon("()"),
		"(x)":                 x,
		"((x))":               x,
		"(x, y)":              patCon("(,)", x, y),
		"(x, y, z)":           patCon("(,,)", x, y, z),
		"(x : y, C z, 1)":     patCon("(,,)", patCon(":", x, y), patCon("C", z), patInt(1)),
		"[]":                  patCon("[]"),
		"[x]":                 patCon(":", x, patCon("[]")),
		"[x, y]":              patCon(":", x, patCon(":", y, patCon("[]"))),
		"[x : y, C z, [], _]": patList(patCon(":", x, y), patCon("C", z), patList(), wild()),
	} {
		checkModule(t, "module M; f "+text+" = 1;", withPat(want))
		checkModule(t, "module M; f = \\"+text+" -> 1;", withBody(lam(num(1), want)))
		checkModule(t, "module M; f = case x of {"+text+" -> 1};", withBody(cases(named("x"), alt(want, num(1)))))
	}
	checkModule(t, "module M; f C x = 1;", withClause(clause("f", num(1), patCon("C"), x)))
	checkModule(t, "module M; f = case x of {C x -> 1; x : y -> 2};", withBody(cases(named("x"), alt(patCon("C", x), num(1)), alt(patCon(":", x, y), num(2)))))
}

// P2.5.

func TestTerms(t *testing.T) {
	a, b, c, plus, colon := named("a"), named("b"), named("c"), named("+"), con(":")
	x := patVar("x")
	for text, want := range map[string]api.Term{
		"a":                                    a,
		"M.a":                                  named("M.a"),
		"C":                                    con("C"),
		"M.C":                                  con("M.C"),
		"0":                                    num(0),
		"4611686018427387903":                  num(api.MaxInt),
		"'a'":                                  num(97),
		`"ab"`:                                 app(colon, num(97), app(colon, num(98), con("[]"))),
		`""`:                                   con("[]"),
		`"\255;"`:                              list(num(255), num(59)),
		"()":                                   con("()"),
		"(+)":                                  plus,
		"(:)":                                  colon,
		"((+))":                                plus,
		"(a)":                                  a,
		"((a + b))":                            flat(a, plus, b),
		"(a, b)":                               app(con("(,)"), a, b),
		"(a, b, c)":                            app(con("(,,)"), a, b, c),
		"(a + b, \\x -> a, (a, c))":            app(con("(,,)"), flat(a, plus, b), lam(a, x), app(con("(,)"), a, c)),
		"(a, b) c":                             app(con("(,)"), a, b, c),
		"[]":                                   con("[]"),
		"[a]":                                  app(colon, a, con("[]")),
		"[a, b + c, []]":                       list(a, flat(b, plus, c), list()),
		"(:) a []":                             list(a),
		"f a b":                                app(named("f"), a, b),
		"f (f a) [b] 1 'a' \"\" C M.C M.a ()":  app(named("f"), app(named("f"), a), list(b), num(1), num(97), list(), con("C"), con("M.C"), named("M.a"), con("()")),
		"a + b":                                flat(a, plus, b),
		"a : b":                                flat(a, colon, b),
		"a `f` b `M.f` c `C` a `M.C` b":        flat(a, named("f"), b, named("M.f"), c, con("C"), a, con("M.C"), b),
		"f a + (b + c) * (+)":                  flat(app(named("f"), a), plus, flat(b, plus, c), named("*"), plus),
		"(+ a)":                                right(plus, a),
		"(- 1)":                                right(named("-"), num(1)),
		"(: a b + c)":                          right(colon, app(a, b), plus, c),
		"(`f` a)":                              right(named("f"), a),
		"(`C` \\x -> a)":                       right(con("C"), lam(a, x)),
		"(+ (a + b))":                          right(plus, flat(a, plus, b)),
		"(a +)":                                left(a, plus),
		"(a b * c `C`)":                        left(app(a, b), named("*"), c, con("C")),
		"((a + b) :)":                          left(flat(a, plus, b), colon),
		"((\\x -> a) +)":                       left(lam(a, x), plus),
		"(case a of {x -> b} +)":               left(cases(a, alt(x, b)), plus),
		"(+ case a of {x -> b} + c)":           right(plus, cases(a, alt(x, b)), plus, c),
		"\\x -> a":                             lam(a, x),
		"\\x _ (C x) 1 -> a + b":               lam(flat(a, plus, b), x, wild(), patCon("C", x), patInt(1)),
		"a + \\x -> b + c":                     flat(a, plus, lam(flat(b, plus, c), x)),
		"(\\x -> a) + b":                       flat(lam(a, x), plus, b),
		"(\\x -> a) b":                         app(lam(a, x), b),
		"let {f = a} in b":                     let(b, clause("f", a)),
		"let {f = a;} in b":                    let(b, clause("f", a)),
		"let {f x _ = a; (+) = b; f = c} in a": let(a, clause("f", a, x, wild()), clause("+", b), clause("f", c)),
		"a + let {f = a} in b + c":             flat(a, plus, let(flat(b, plus, c), clause("f", a))),
		"if a then b else c":                   cond(a, b, c),
		"if a + b then a b else a + b":         cond(flat(a, plus, b), app(a, b), flat(a, plus, b)),
		"if if a then b else c then if a then b else c else if a then b else c": cond(cond(a, b, c), cond(a, b, c), cond(a, b, c)),
		"case a of {x -> b}":                                   cases(a, alt(x, b)),
		"case a + b of {x -> b; _ -> c;}":                      cases(flat(a, plus, b), alt(x, b), alt(wild(), c)),
		"case a of {x -> \\x -> b + c}":                        cases(a, alt(x, lam(flat(b, plus, c), x))),
		"case a of {x -> b} + c":                               flat(cases(a, alt(x, b)), plus, c),
		"a - case b of {C x : x -> c} + c":                     flat(a, named("-"), cases(b, alt(patCon(":", patCon("C", x), x), c)), plus, c),
		"case case a of {x -> b} of {x -> case c of {x -> a}}": cases(cases(a, alt(x, b)), alt(x, cases(c, alt(x, a)))),
	} {
		checkModule(t, "module M; f = "+text+";", withBody(want))
		checkModule(t, "module M; f = ("+text+");", withBody(want))
		checkModule(t, "module M; f = let {g = "+text+"} in "+text+";", withBody(let(want, clause("g", want))))
	}
}

// P2.1, rule 4: in the order of the grammar's rows. A place of -1 stands for the text's end.
func TestMisfits(t *testing.T) {
	for _, x := range []struct {
		text string
		at   int
	}{
		{"", -1}, {" -- nothing\n", -1}, {"module", -1}, {"module M", -1}, {"module M ", -1}, {"f", 0}, {"Module M;", 0}, {"module m;", 7}, {"module M.N;", 7}, {"module M,", 8}, {"module M; module N;", 10}, {"module M;;", 9}, {"\"module\" M;", 0},
		{"module M; import", -1}, {"module M; import N", -1}, {"module M; import N (", -1}, {"module M; import N (f", -1}, {"module M; import n;", 17}, {"module M; import N.O;", 17}, {"module M; import N f;", 19}, {"module M; import N (f,);", 22}, {"module M; import N (,);", 20}, {"module M; import N (f g);", 22}, {"module M; import N (M.f);", 20}, {"module M; import N (+);", 20}, {"module M; import N ((:));", 21}, {"module M; import N ((f));", 21}, {"module M; import N ((+);", 23}, {"module M; import N ();;", 22}, {"module M; f = 1; import N;", 17}, {"module M; infix 1 +; import N;", 21},
		{"module M; data", -1}, {"module M; data t = A;", 15}, {"module M; data M.T = A;", 15}, {"module M; data T;", 16}, {"module M; data T (a) = A;", 17}, {"module M; data T A = A;", 17}, {"module M; data T = ;", 19}, {"module M; data T = a;", 19}, {"module M; data T = M.A;", 19}, {"module M; data T = A |;", 22}, {"module M; data T = A | a;", 23}, {"module M; data T = A = B;", 21}, {"module M; data T = A a -> b;", 23}, {"module M; data T = A", -1}, {"module M; data T = A M.b;", 21}, {"module M; data T = A 1;", 21},
		{"module M; infixl", -1}, {"module M; infixl +;", 17}, {"module M; infixl 10 +;", 17}, {"module M; infixl 4611686018427387903 +;", 17}, {"module M; infixl '\\001' +;", 17}, {"module M; infixl 1;", 18}, {"module M; infixl 1 :;", 19}, {"module M; infixl 1 f;", 19}, {"module M; infixl 1 (+);", 19}, {"module M; infixl 1 `F`;", 20}, {"module M; infixl 1 `M.f`;", 20}, {"module M; infixl 1 `+`;", 20}, {"module M; infixl 1 `f;", 21}, {"module M; infixl 1 +,;", 21}, {"module M; infixl 1 + -;", 21}, {"module M; infixl 1 + + 2;", 21}, {"module M; infixr 1 =;", 19}, {"module M; infix 1 |;", 18}, {"module M; infix 1 ->;", 18}, {"module M; infix 1 ::;", 18},
		{"module M; F = 1;", 10}, {"module M; M.f = 1;", 10}, {"module M; 1 = 1;", 10}, {"module M; _ = 1;", 10}, {"module M; [] = 1;", 10}, {"module M; + = 1;", 10}, {"module M; (:) = 1;", 11}, {"module M; (f) = 1;", 11}, {"module M; (+ = 1;", 13}, {"module M; (+ -) = 1;", 13}, {"module M; () = 1;", 11}, {"module M; (`f`) = 1;", 11}, {"module M; (=) = 1;", 11}, {"module M; f", -1}, {"module M; f;", 11}, {"module M; f, g :: Int;", 11}, {"module M; x + y = 1;", 12}, {"module M; f = 1", -1}, {"module M; f = 1 g = 2;", 18}, {"module M; let = 1;", 10}, {"module M; f :: a = 1;", 17}, {"module M; f 1 :: Int;", 14}, {"module M; f -> 1;", 12}, {"module M; f = a b = c;", 18}, {"module M; f = a :: b;", 16},
		{"module M; f ::", -1}, {"module M; f :: ;", 15}, {"module M; f :: -> a;", 15}, {"module M; f :: a b;", 17}, {"module M; f :: a ->;", 19}, {"module M; f :: M.a;", 15}, {"module M; f :: 1;", 15}, {"module M; f :: _;", 15}, {"module M; f :: [];", 16}, {"module M; f :: [a, b];", 17}, {"module M; f :: [a;", 17}, {"module M; f :: (,);", 16}, {"module M; f :: (a,);", 18}, {"module M; f :: (a, b,);", 21}, {"module M; f :: (a, b, c, d);", 23}, {"module M; f :: (a -> );", 21}, {"module M; f :: (a];", 17}, {"module M; f :: (a b);", 18}, {"module M; f :: T a + b;", 19}, {"module M; f :: (->);", 16}, {"module M; f :: () a;", 18}, {"module M; f :: [a] b;", 19}, {"module M; f :: (T) a;", 19}, {"module M; f :: T -> U a b -> (V", -1},
		{"module M; f M.x = 1;", 12}, {"module M; f (M.x) = 1;", 13}, {"module M; f (x y) = 1;", 15}, {"module M; f (C x", -1}, {"module M; f x : y = 1;", 14}, {"module M; f (x :) = 1;", 16}, {"module M; f (: x) = 1;", 13}, {"module M; f (x + y) = 1;", 15}, {"module M; f (x,) = 1;", 15}, {"module M; f (x, y, z, w) = 1;", 20}, {"module M; f [x,] = 1;", 15}, {"module M; f [x;", 14}, {"module M; f [,] = 1;", 13}, {"module M; f (,) = 1;", 13}, {"module M; f (x] = 1;", 14}, {"module M; f \\ = 1;", 12}, {"module M; f - 1 = 1;", 12}, {"module M; f (-1) = 1;", 13}, {"module M; f (x = 1) = 1;", 15}, {"module M; f ((+)) = 1;", 14}, {"module M; f (() x) = 1;", 16}, {"module M; f ([] x) = 1;", 16}, {"module M; f (\"\" x) = 1;", 16}, {"module M; f ((C) x) = 1;", 17},
		{"module M; f = ", -1}, {"module M; f = ;", 14}, {"module M; f = a + ;", 18}, {"module M; f = + a;", 14}, {"module M; f = a + + b;", 18}, {"module M; f = a `f;", 18}, {"module M; f = a `+` b;", 17}, {"module M; f = a `1` b;", 17}, {"module M; f = a ``;", 17}, {"module M; f = a `f` `g` b;", 20}, {"module M; f = _;", 14}, {"module M; f = a _;", 16}, {"module M; f = a \\x -> b;", 16}, {"module M; f = a let {b = c} in d;", 16}, {"module M; f = a if b then c else d;", 16}, {"module M; f = a case b of {c -> d};", 16}, {"module M; f = case a of {b -> c} d;", 33}, {"module M; f = a = b;", 16}, {"module M; f = a | b;", 16}, {"module M; f = a -> b;", 16}, {"module M; f = a, b;", 15}, {"module M; f = {a};", 14}, {"module M; f = a);", 15}, {"module M; f = a];", 15}, {"module M; f = a};", 15},
		{"module M; f = \\;", 15}, {"module M; f = \\ -> a;", 16}, {"module M; f = \\x;", 16}, {"module M; f = \\x = a;", 17}, {"module M; f = \\x ->;", 19}, {"module M; f = \\x : y -> a;", 17}, {"module M; f = \\M.x -> a;", 15}, {"module M; f = \\C x -> a", -1},
		{"module M; f = let a = b in c;", 18}, {"module M; f = let {} in c;", 19}, {"module M; f = let {;} in c;", 19}, {"module M; f = let {a} in c;", 20}, {"module M; f = let {a = b;;} in c;", 25}, {"module M; f = let {a = b} c;", 26}, {"module M; f = let {a = b} in;", 28}, {"module M; f = let {a :: b} in c;", 21}, {"module M; f = let {C = b} in c;", 19}, {"module M; f = let {(:) = b} in c;", 20}, {"module M; f = let {infix 1 +} in c;", 19}, {"module M; f = let {a = b, c = d} in e;", 24}, {"module M; f = let {a = b", -1}, {"module M; f = let {a = b;", -1}, {"module M; f = let {a = b}", -1}, {"module M; f = let {a = b) in c;", 24},
		{"module M; f = if a;", 18}, {"module M; f = if then;", 17}, {"module M; f = if a then;", 23}, {"module M; f = if a then b;", 25}, {"module M; f = if a then b else;", 30}, {"module M; f = if a else b;", 19}, {"module M; f = then;", 14}, {"module M; f = if a then b else c else d;", 33},
		{"module M; f = case of {a -> b};", 19}, {"module M; f = case a {b -> c};", 21}, {"module M; f = case a of b -> c;", 24}, {"module M; f = case a of {};", 25}, {"module M; f = case a of {;};", 25}, {"module M; f = case a of {b};", 26}, {"module M; f = case a of {b = c};", 27}, {"module M; f = case a of {b ->};", 29}, {"module M; f = case a of {b -> c;;};", 32}, {"module M; f = case a of {b c -> d};", 27}, {"module M; f = case a of {b -> c -> d};", 32}, {"module M; f = case a of {+ -> d};", 25}, {"module M; f = case a of {b -> c;", -1},
		{"module M; f = (", -1}, {"module M; f = (,);", 15}, {"module M; f = (a;", 16}, {"module M; f = (a,);", 17}, {"module M; f = (a, b,);", 20}, {"module M; f = (a, b, c, d);", 22}, {"module M; f = (`f`);", 18}, {"module M; f = (`f` a +);", 22}, {"module M; f = (+ a +);", 20}, {"module M; f = (+ a, b);", 18}, {"module M; f = (+ +);", 17}, {"module M; f = (a + + b);", 19}, {"module M; f = (a +, b);", 18}, {"module M; f = (a, b +);", 21}, {"module M; f = (a + -);", 19}, {"module M; f = (=);", 15}, {"module M; f = (->);", 15}, {"module M; f = (::);", 15}, {"module M; f = (|);", 15}, {"module M; f = (let);", 18}, {"module M; f = (_);", 15}, {"module M; f = (:", -1},
		{"module M; f = (\\x -> x +);", 24}, {"module M; f = (a + \\x -> x +);", 28}, {"module M; f = (if a then b else c +);", 35}, {"module M; f = (let {a = b} in c `d`);", 35}, {"module M; f = (+ \\x -> x +);", 26}, {"module M; f = (\\x -> \\y -> x :);", 30},
		{"module M; f = [;", 15}, {"module M; f = [,];", 15}, {"module M; f = [a,];", 17}, {"module M; f = [a b;", 18}, {"module M; f = [a);", 16}, {"module M; f = [a +];", 18}, {"module M; f = [+ a];", 15}, {"module M; f = [+];", 15}, {"module M; f = [a", -1},
		{"module M; f = M.let;", 19}, {"module M; f = a.b.;", 18},
	} {
		at := x.at
		if at < 0 {
			at = len(x.text)
		}
		checkFault(t, x.text, api.ErrSyntax, at)
	}
}

// What the bytes of a string spell is no token's text.
func TestStringsAreNoMarks(t *testing.T) {
	checkFault(t, `module M; f "=" 1;`, api.ErrSyntax, 17)
	checkFault(t, `module M; f = "(" a ")" `, api.ErrSyntax, 24)
	checkModule(t, `module M; f = "+" ";" "let";`, withBody(app(list(num('+')), list(num(';')), list(num('l'), num('e'), num('t')))))
	checkTaken(t, `module M; f = "`+strings.Repeat("(", 998)+`";`)
	checkFault(t, `module M; data "(" = A;`, api.ErrSyntax, 15)
}
