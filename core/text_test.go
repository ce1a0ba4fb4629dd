package core_test

import (
	"strings"
	"testing"

	"sloth/api"
	"sloth/core"
)

// whole is a text with all that the grammar has.
const whole = `(data M.T (a b) ("M.A" a (List b)) ("q\"\\ "))
(data U () ("c"))
(def "f" (a c') (a -> (c' -> (M.T Int (Pair a Bool)))) (lam "x" a (lam "y" c' (fail 4 (M.T Int (Pair a Bool))))))
(def " (\\)" () Int (let (("c" Int 1) ("d" (Int -> Int) (lam "e" Int (op * "c" -4611686018427387904)))) (hard "\"" Int (app "d" 4611686018427387903) (seq (global "f" Int (List (List Bool))) (case (con "Nil" U) (else (case (fail 2 (M.T Int Int)) (con "M.A" ("v" "w") "v") (con "q\"\\ " () 0))))))))
(def "g" () Bool (case 7 (int -1 (con "True")) (int 0 (op <= 1 2)) (else (con "False"))))
`

// TestWhole: P8.5 to P8.8: all kinds, read and written; the blanks of what is written.
func TestWhole(t *testing.T) {
	p := read(t, whole)
	want := api.Program{
		Datas: []api.Data{
			{Name: "M.T", Params: []string{"a", "b"}, Cons: []api.Con{{Name: "M.A", Fields: []api.Type{variable("a"), typ("(List b)")}}, {Name: `q"\ `}}},
			{Name: "U", Cons: []api.Con{{Name: "c"}}},
		},
		Defs: []api.Def{
			{Name: "f", Params: []string{"a", "c'"}, Type: typ("(a -> (c' -> (M.T Int (Pair a Bool))))"), Body: lam("x", variable("a"), lam("y", variable("c'"), fail(4, typ("(M.T Int (Pair a Bool))"))))},
			{Name: ` (\)`, Type: integer, Body: let(
				hard(`"`, integer, app(local("d"), num(api.MaxInt)), seq(global("f", integer, typ("(List (List Bool))")), cases(con("Nil", data("U")), altElse(
					cases(fail(2, typ("(M.T Int Int)")), altCon("M.A", local("v"), "v", "w"), altCon(`q"\ `, num(0))))))),
				api.Bind{Name: "c", Type: integer, Value: num(1)}, api.Bind{Name: "d", Type: typ("(Int -> Int)"), Value: lam("e", integer, op("*", local("c"), num(api.MinInt)))})},
			{Name: "g", Type: data("Bool"), Body: cases(num(7), altInt(-1, con("True")), altInt(0, op("<=", num(1), num(2))), altElse(con("False")))},
		},
	}
	if !alike(p, want) {
		t.Errorf("Read: %+v\nwant %+v", p, want)
	}
	checkCode(t, whole, core.Check(p), api.OK)
	if s, code := core.Print(p); s != whole || code != api.OK {
		t.Errorf("Print: %s, %v", s, code)
	}
}

// TestBlanks: P8.5, P8.8: many blanks, and as few as may be; Print is the same.
func TestBlanks(t *testing.T) {
	text := strings.ReplaceAll(whole, `" (\\)"`, `"+"`) // blanks and brackets in a name are its own
	tight := strings.NewReplacer(") (", ")(", "\n", "", `" (`, `"(`, `" "`, `""`, `) "`, `)"`).Replace(text)
	loose := strings.NewReplacer("(", "\r\n\t( ", ")", " )\t", `(def "`, "(def\n\n\r \"").Replace(text)
	for _, s := range []string{text, tight, loose} {
		p, code := core.Read(s)
		checkCode(t, s, code, api.OK)
		if again, code := core.Print(p); again != text || code != api.OK {
			t.Errorf("Print of Read(%s): %s, %v", s, again, code)
		}
	}
	if len(tight) >= len(text) || len(loose) <= len(text) {
		t.Error("neither tight nor loose")
	}
}

// TestBeginnings: P8.6: the beginning of a text is a program just behind a data type or a definition.
func TestBeginnings(t *testing.T) {
	fine := map[int]bool{0: true}
	for i := range whole {
		if whole[i] == '\n' {
			fine[i], fine[i+1] = true, true
		}
	}
	for i := range whole {
		if _, code := core.Read(whole[:i]); (code == api.OK) != fine[i] || code != api.OK && code != api.ErrCoreText {
			t.Errorf("Read(%s): %v", whole[:i], code)
		}
	}
}

// TestNoText: P8.6: texts that are no program's.
func TestNoText(t *testing.T) {
	var l []string
	for _, s := range []string{
		"f", `"f"`, "1", "(", ")", "()", "(def)", "(data)", `(def "f")`, `(def "f" ())`, `(def "f" () Int)`, `(def "f" () Int 1`, `(def "f" () Int 1))`, `(def "f" () Int 1 2)`, `(def "f" () 1)`, `(def "f" Int 1)`, `(def "f" a Int 1)`, `((def "f" () Int 1))`, `(defs "f" () Int 1)`, `("def" "f" () Int 1)`, `(lam "x" Int 1)`,
		`(def f () Int 1)`, `(def "" () Int 1)`, `(def "f () Int 1)`, `(def "f" () Int ")`, `(def "\f" () Int 1)`, `(def "f\" () Int 1)`, `(def "f\`, `(def "f" () Int "\\\")`, "(def \"\x1f\" () Int 1)", "(def \"\x7f\" () Int 1)", "(def \"é\" () Int 1)", "(def \"\n\" () Int 1)",
		"\x00", "\x0b", "\x0c", "\x7f", "\x80", "é", "(def \"f\" () Int 1)\x00", "\ufeff",
		`(def "f" (A) Int 1)`, `(def "f" ("a") Int 1)`, `(def "f" (1) Int 1)`, `(def "f" (a (b)) Int 1)`, `(def "f" (a.b) Int 1)`, `(def "f" (Int) Int 1)`,
		`(data m () ("c"))`, `(data "M" () ("c"))`, `(data Int () ("c"))`, `(data M.t () ("c"))`, `(data M ("c"))`, `(data M () "c")`, `(data M () (c))`, `(data M () ())`, `(data M () ("c" "d"))`, `(data M () ("c" 1))`, `(data A.B.C () ("c"))`, `(data M a ("c"))`, `(data M () ("c") Int)`,
		`(def "f" () Int 1) (data M.T () ("c"))`, `(data M.T () ("c")) (def "f" () Int 1) (data M.U () ("d"))`,
	} {
		l = append(l, s)
	}
	for _, s := range []string{
		"01", "-0", "+1", "00", "1.", "0x1", "1_0", "--1", "-", "4611686018427387904", "-4611686018427387905", "99999999999999999999999999999999", "x", "Int", "True", "->", `"\x"`, "(1)", `("x")`, `((global "f"))`,
		"(global)", "(global f)", `(global "f" 1)`, `(global "f" "a")`, `(global "f" ())`, "(con)", "(con Nil)", `(con "Nil" 1)`, "(app)", "(app 1)", "(app 1 2 3)", "(lam)", `(lam "x" 1)`, `(lam "x" Int)`, `(lam x Int 1)`, `(lam "x" Int 1 1)`, `(lam Int "x" 1)`,
		"(let 1)", "(let () )", `(let ("x" Int 1) 1)`, `(let (("x" Int)) 1)`, `(let (("x" Int 1 1)) 1)`, `(let (("x" Int 1)) 1 1)`, `(let (("x" 1)) 1)`, `(let (("x" Int 1))`, `(let (x) 1)`,
		`(hard "x" Int 1)`, `(hard "x" Int 1 2 3)`, `(hard ("x" Int 1) 2)`, "(case)", "(case (else 1))", "(case 1 else)", "(case 1 ())", "(case 1 (else))", "(case 1 (else 1 2))", "(case 1 (int 1))", "(case 1 (int x 1))", "(case 1 (int 01 1))", "(case 1 (int 1 2 3))", `(case 1 (con "x" 1))`, `(case 1 (con "x" (y) 1))`, `(case 1 (con "x" ("y")))`, `(case 1 (con "x" "y" 1))`, `(case 1 (con x () 1))`, `(case 1 (con "x" () 1 2))`, "(case 1 (other 1))", "(case 1 (else 1) 2)", "(case 1 2 (else 1))",
		"(op)", "(op + 1)", "(op + 1 2 3)", `(op "+" 1 2)`, "(op 1 2)", "(op (+) 1 2)", "(seq)", "(seq 1)", "(seq 1 2 3)", "(fail)", "(fail 1)", "(fail Int)", "(fail x Int)", "(fail 1 Int Int)", "(fail 01 Int)", "(fail 1 1)", "(def)", `(var "x")`, "(int 1)", "(else 1)", "(zero)", "(appp 1 2)", "(APP 1 2)", `("app" 1 2)`,
	} {
		l = append(l, `(def "f" () Int `+s+`)`)
	}
	for _, s := range []string{"", "1", `"a"`, "(Int)", "(a)", "(List)", "()", "(Int Int)", "(a Int)", "(a -> )", "(-> a)", "(a -> b -> c)", "(a->b)", "a -> b", "(a - > b)", "((a -> b))", "(a -> b c)", "(List a -> b)", "(List -> a b)", "((List a) b)", "(List (a))", "A.B.C", "a.B", "A.b", "Ä", "(Int -> Int", "(M.T a b c d e f g)", "_", "'a", "a-b", "(List 1)", `(List "a")`} {
		l = append(l, `(def "f" () `+s+` 1)`, `(def "f" () Int (global "g" Int `+s+`1))`)
	}
	for _, s := range l {
		p, code := core.Read(s)
		if code != api.ErrCoreText || !alike(p, api.Program{}) {
			t.Errorf("Read(%s): %+v, %v", s, p, code)
		}
	}
}

// TestTexts: P8.6: what is read, whether Check takes it or not.
func TestTexts(t *testing.T) {
	for _, x := range []struct {
		text string
		want api.Program
	}{
		{" \t\r\n", api.Program{}},
		{`(def"f"()Int 1)(def"g"()(List Int)"x")`, api.Program{Defs: []api.Def{{Name: "f", Type: integer, Body: num(1)}, {Name: "g", Type: data("List", integer), Body: local("x")}}}},
		{`(def "f" (a a) (Bool b) (let () (case 1)))`, api.Program{Defs: []api.Def{{Name: "f", Params: []string{"a", "a"}, Type: data("Bool", variable("b")), Body: let(cases(num(1)))}}}},
		{`(data Bool (a b c d e f g))`, api.Program{Datas: []api.Data{{Name: "Bool", Params: strings.Fields("a b c d e f g")}}}},
		{`(def "f" () (M.T a b c d e f) (op def (fail -7 (List -> Nobody)) (con "(" ((List a)->(List b)))))`, one(data("M.T", variable("a"), variable("b"), variable("c"), variable("d"), variable("e"), variable("f")), op("def", fail(-7, fun(data("List"), data("Nobody"))), con("(", fun(typ("(List a)"), typ("(List b)")))))},
		{`(def "f" () Int (op \ "\\" "\""))`, one(integer, op(`\`, local(`\`), local(`"`)))},
		{`(def "f" () Int (op -1 -1 0))`, one(integer, op("-1", num(-1), num(0)))},
		{`(def "f" () Int (case 1 (else 1) (con "x" () 1) (else 2) (int 3 3) (int 3 3)))`, one(integer, cases(num(1), altElse(num(1)), altCon("x", num(1)), altElse(num(2)), altInt(3, num(3)), altInt(3, num(3))))},
		{`(def "def" (data def int else con) (data -> Def) (global "data" int))`, api.Program{Defs: []api.Def{{Name: "def", Params: strings.Fields("data def int else con"), Type: fun(variable("data"), data("Def")), Body: global("data", variable("int"))}}}},
		{`(def "f" () Int (hard "x" Int (lam "x" Int "x") (hard "y" a 1 2)))`, one(integer, hard("x", integer, lam("x", integer, local("x")), hard("y", variable("a"), num(1), num(2))))},
	} {
		p, code := core.Read(x.text)
		if code != api.OK || !alike(p, x.want) {
			t.Errorf("Read(%s): %+v, %v\nwant %+v", x.text, p, code, x.want)
		}
	}
}

// TestBytes: P8.5, P8.6: which byte is a blank, may stand in a word, and in quotes.
func TestBytes(t *testing.T) {
	for i := range 256 {
		b := string([]byte{byte(i)})
		p, code := core.Read(`(def "f" () Int (op x` + b + `y 1 2))`)
		switch {
		case strings.Contains(" \t\n\r", b), strings.Contains(`()"`, b), i < 33 || i > 126:
			checkCode(t, "in a word: "+b, code, api.ErrCoreText)
		case code != api.OK || p.Defs[0].Body.Name != "x"+b+"y":
			t.Errorf("in a word: %q: %v", b, code)
		}
		p, code = core.Read(`(def "f" () Int (op x` + b + ` 1 2))`)
		if strings.Contains(" \t\n\r", b) && (code != api.OK || p.Defs[0].Body.Name != "x") {
			t.Errorf("a blank: %q: %v", b, code)
		}
		p, code = core.Read(`(def "f" () Int "x` + b + `y")`)
		switch {
		case i < 32 || i > 126 || b == `"` || b == `\`:
			checkCode(t, "in quotes: "+b, code, api.ErrCoreText)
		case code != api.OK || p.Defs[0].Body.Name != "x"+b+"y":
			t.Errorf("in quotes: %q: %v", b, code)
		}
		p, code = core.Read(`(def "f" () Int "x\` + b + `y")`)
		switch {
		case b != `"` && b != `\`:
			checkCode(t, "marked: "+b, code, api.ErrCoreText)
		case code != api.OK || p.Defs[0].Body.Name != "x"+b+"y":
			t.Errorf("marked: %q: %v", b, code)
		}
	}
}

// TestPrintWrong: P8.7: Check's error, and nothing beside it.
func TestPrintWrong(t *testing.T) {
	for _, text := range []string{`(def "f" () a 1)`, `(def "f" () Int "x")`, `(data Bool () ("x"))`, `(def "f" () Int (let () 1))`} {
		p := read(t, text)
		if s, code := core.Print(p); s != "" || code != core.Check(p) || code == api.OK {
			t.Errorf("Print(%s): %s, %v", text, s, code)
		}
	}
	if s, code := core.Print(read(t, `(def "f" () Int (op + 1 2))`)); s != "(def \"f\" () Int (op + 1 2))\n" || code != api.OK {
		t.Error(s, code)
	}
	if s, code := core.Print(api.Program{}); s != "" || code != api.OK {
		t.Error(s, code)
	}
}

// TestSame: P8.4: by texts.
func TestSame(t *testing.T) {
	for _, x := range []struct {
		p, q string
		want bool
	}{
		{"", "", true}, {"", id, false}, {id, id, true}, {id, strings.ReplaceAll(id, `"x"`, `"y"`), true}, {id, strings.ReplaceAll(id, `"id"`, `"ie"`), false}, {id, strings.NewReplacer("(a)", "(b)", "a ", "b ", "-> a", "-> b").Replace(id), false}, {id + konst, konst + id, false}, {id, id + konst, false},
		{`(def "f" (a b) Int 1)`, `(def "f" (b a) Int 1)`, false}, {`(def "f" (a) Int 1)`, `(def "f" () Int 1)`, false},
		{shapy, shapy, true}, {shapy, strings.Replace(shapy, "M.C", "M.D", 1), false}, {shapy, strings.Replace(shapy, `("M.C")`, "", 1), false}, {shapy, strings.Replace(shapy, "(a b)", "(b a)", 1), false}, {shapy, strings.Replace(shapy, "M.T b a", "M.T a b", 1), false}, {shapy, strings.ReplaceAll(shapy, "M.T", "M.U"), false}, {shapy, shapy + `(data U () ("u"))`, false},
		{`(data A () ("a")) (data B () ("b"))`, `(data B () ("b")) (data A () ("a"))`, false},
		{`(def "f" () (Int -> Int) (lam "x" Int "x"))`, `(def "f" () (Int -> Int) (lam "y" Int "y"))`, true},
		{`(def "f" () (Int -> Int) (lam "x" Int "x"))`, `(def "f" () (Int -> Int) (lam "y" Int 1))`, false},
		{`(def "f" () (Int -> (Int -> Int)) (lam "x" Int (lam "y" Int "x")))`, `(def "f" () (Int -> (Int -> Int)) (lam "y" Int (lam "x" Int "y")))`, true},
		{`(def "f" () (Int -> (Int -> Int)) (lam "x" Int (lam "y" Int "x")))`, `(def "f" () (Int -> (Int -> Int)) (lam "y" Int (lam "x" Int "x")))`, false},
		{`(def "f" () Int (let (("x" Int "y") ("y" Int 1)) "x"))`, `(def "f" () Int (let (("y" Int "x") ("x" Int 1)) "y"))`, true},
		{`(def "f" () Int (let (("x" Int "y") ("y" Int 1)) "x"))`, `(def "f" () Int (let (("y" Int 1) ("x" Int "y")) "x"))`, false},
		{`(def "f" () Int (let (("x" Int "y") ("y" Int 1)) "x"))`, `(def "f" () Int (let (("x" Int "x") ("y" Int 1)) "x"))`, false},
		{`(def "f" () Int (let (("x" Int 1)) "x"))`, `(def "f" () Int (hard "x" Int 1 "x"))`, false},
		{`(def "f" () Int (let (("x" (List Int) (con "Nil" Int))) 1))`, `(def "f" () Int (let (("x" (List Bool) (con "Nil" Bool))) 1))`, false},
		{`(def "f" () Int (let (("x" Int 1)) 2))`, `(def "f" () Int (let (("x" Int 1) ("y" Int 1)) 2))`, false},
		{`(def "f" () Int (hard "x" Int 1 "x"))`, `(def "f" () Int (hard "\"" Int 1 "\""))`, true}, {`(def "f" () Int (hard "x" Int 1 "x"))`, `(def "f" () Int (hard "x" Int 2 "x"))`, false},
		{`(def "f" () Int (op + 1 2))`, `(def "f" () Int (op - 1 2))`, false}, {`(def "f" () Int (op + 1 2))`, `(def "f" () Int (op + 2 1))`, false}, {`(def "f" () Int 1)`, `(def "f" () Int 2)`, false}, {`(def "f" () Int (fail 1 Int))`, `(def "f" () Int (fail 2 Int))`, false},
		{`(def "f" () Int (seq (con "Nil" Int) 1))`, `(def "f" () Int (seq (con "Nil" Bool) 1))`, false}, {`(def "f" () Int (seq (con "True") 1))`, `(def "f" () Int (seq (con "False") 1))`, false},
		{`(def "f" () Int (global "f")) (def "g" () Int 1)`, `(def "f" () Int (global "g")) (def "g" () Int 1)`, false},
		{`(def "f" () Int (case (fail 1 (Pair Int Int)) (con "Pair" ("x" "y") "x")))`, `(def "f" () Int (case (fail 1 (Pair Int Int)) (con "Pair" ("y" "x") "y")))`, true},
		{`(def "f" () Int (case (fail 1 (Pair Int Int)) (con "Pair" ("x" "y") "x")))`, `(def "f" () Int (case (fail 1 (Pair Int Int)) (con "Pair" ("y" "x") "x")))`, false},
		{`(def "f" () Int (case 1 (int 1 1) (int 2 1)))`, `(def "f" () Int (case 1 (int 2 1) (int 1 1)))`, false}, {`(def "f" () Int (case 1 (int 1 1) (else 1)))`, `(def "f" () Int (case 1 (int 1 1)))`, false}, {`(def "f" () Int (case 1 (int 0 1)))`, `(def "f" () Int (case 1 (else 1)))`, false},
		{`(def "f" () Int (case (con "True") (con "True" () 1)))`, `(def "f" () Int (case (con "True") (con "False" () 1)))`, false}, {`(def "f" () Int (case (con "True") (con "True" () 1)))`, `(def "f" () Int (case (con "False") (con "True" () 1)))`, false},
		{`(def "f" () (Int -> Int) (lam "x" Int 1)) (def "g" () (Int -> Int) (lam "y" Int "y"))`, `(def "f" () (Int -> Int) (lam "x" Int 1)) (def "g" () (Int -> Int) (lam "x" Int "x"))`, true},
	} {
		p, q := read(t, x.p), read(t, x.q)
		is, code := core.Same(p, q)
		back, backCode := core.Same(q, p)
		if is != x.want || back != x.want || code != api.OK || backCode != api.OK {
			t.Errorf("Same(%s, %s): %v %v, back %v %v", x.p, x.q, is, code, back, backCode)
		}
	}
	name, kind := read(t, `(def "f" () Int "x")`), read(t, `(def "f" () Bool 1)`)
	for _, x := range []struct {
		p, q api.Program
		want api.Errno
	}{{name, kind, api.ErrCoreName}, {kind, name, api.ErrCoreType}, {name, name, api.ErrCoreName}, {api.Program{}, name, api.ErrCoreName}, {kind, api.Program{}, api.ErrCoreType}} {
		if is, code := core.Same(x.p, x.q); is || code != x.want {
			t.Errorf("Same(%s, %s): %v, %v", told(x.p), told(x.q), is, code)
		}
	}
}
