package compile_test

import (
	"fmt"
	"slices"
	"strings"
	"testing"

	"sloth/api"
	"sloth/compile"
)

// TestExamples: P18.1: the chapter's.
func TestExamples(t *testing.T) {
	id := fn("id", "x "+list, list, `"x"`)
	const idCode = `global "id" 1 push 0 update 2 pop 1 unwind `
	for text, want := range map[string]string{
		id:                                    idCode,
		fn("n", "", "Int", "3"):               `global "n" 0 int 3 update 1 unwind`,
		fn("k", "x Int, y Int", "Int", `"x"`): `global "k" 2 push 0 update 3 pop 2 unwind`,
		fn("add", "x Int, y Int", "Int", op("+", `"x"`, `"y"`)):                  `global "add" 2 push 1 eval push 1 eval arith + update 3 pop 2 unwind`,
		id + fn("l", "", list, cons("1", global("id", global("l")))):             idCode + `global "l" 0 glob "l" glob "id" apply int 1 pack "Cons" update 1 unwind`,
		fn("s", "f (Int -> Int), x Int", "Int", app(`"f"`, op("+", `"x"`, "1"))): `global "s" 2 push 1 glob "s!1" apply push 1 apply update 3 pop 2 unwind global "s!1" 1 int 1 push 1 eval arith + update 2 pop 1 unwind`,
		fn("h", "l "+list, "Int", `(case "l" (con "Cons" ("x" "t") "x"))`):       `global "h" 1 push 0 eval testcon "Cons" 8 split "Cons" push 0 update 4 pop 3 unwind fail 2`,
		fn("r", "", list, `(let (("o" (List Int) `+cons("1", `"o"`)+`)) "o")`):   `global "r" 0 alloc 1 push 0 int 1 pack "Cons" update 1 push 0 update 2 pop 1 unwind`,
		"": "",
	} {
		checkTable(t, text, want)
	}
}

// ways is an expression, of which x, l and h are the locals, and g, c definitions, and what it comes to when it is built, worked out, and ended with, at the depth 4. Without a code it is worked out as it is built, and OpEval; and ended with as it is built, and closed.
type ways struct {
	typ, e           string
	build, work, end string
	one              string // the suspended expression that it becomes when it is built
}

const closing = " update 4 pop 3 unwind"

// inM writes a program whose definition m has an expression as its body.
func inM(typ, body string) string {
	return `(data M.T (a) ("M.B" a) ("M.N"))` + fn("m", "x Int, l "+list+", h (Int -> Int)", typ, body) + fn("g", "a Int, b Int", "Int", `"a"`) + fn("c", "", "Int", "5")
}

const whole = "as it is built" // what is a head form then

func (w ways) check(t *testing.T) {
	t.Helper()
	check := func(body, typ, code string, isBuilt bool) {
		t.Helper()
		want := []string{"m", "3 " + code, "g", "2 push 0 update 3 pop 2 unwind", "c", "0 int 5 update 1 unwind"}
		if strings.Contains(code, `glob "Cons"`) {
			want = append(want, "Cons", `2 pack "Cons" update 1 unwind`)
		}
		if isBuilt && w.one != "" {
			want = append(want, "m!1", w.one)
		}
		checkCodes(t, inM(typ, body), want...)
	}
	work, end := w.work, w.end
	switch work {
	case "":
		work = w.build + " eval"
	case whole:
		work = w.build
	}
	if end == "" {
		end = w.build + closing
	}
	check(app(`(con "M.B" `+w.typ+`)`, w.e), "(M.T "+w.typ+")", w.build+` pack "M.B"`+closing, true)
	check(seq(w.e, "0"), "Int", work+" pop 1 int 0"+closing, w.work == "")
	check(w.e, w.typ, end, w.end == "")
}

// TestKinds: P18.1: each kind of expression built, worked out and ended with.
func TestKinds(t *testing.T) {
	for _, w := range []ways{
		{typ: "Int", e: `"x"`, build: "push 0"},
		{typ: list, e: `"l"`, build: "push 1"},
		{typ: "(Int -> Int)", e: `"h"`, build: "push 2"},
		{typ: "Int", e: "7", build: "int 7", work: whole},
		{typ: "Int", e: "-4611686018427387904", build: "int -4611686018427387904", work: whole},
		{typ: "Int", e: `(global "c")`, build: `glob "c"`},
		{typ: "(Int -> (Int -> Int))", e: `(global "g")`, build: `glob "g"`},
		{typ: list, e: none, build: `pack "Nil"`, work: whole},
		{typ: list, e: cons("1", `"l"`), build: `push 1 int 1 pack "Cons"`, work: whole},
		{typ: list, e: cons(`"x"`, cons(`"x"`, `"l"`)), build: `push 1 push 1 pack "Cons" push 1 pack "Cons"`, work: whole},
		{typ: "(Int -> ((List Int) -> (List Int)))", e: `(con "Cons" Int)`, build: `glob "Cons"`},
		{typ: "((List Int) -> (List Int))", e: app(`(con "Cons" Int)`, `"x"`), build: `push 0 glob "Cons" apply`},
		{typ: "Int", e: app(`"h"`, `"x"`), build: "push 0 push 3 apply"},
		{typ: "(Int -> Int)", e: global("g", `"x"`), build: `push 0 glob "g" apply`},
		{typ: "Int", e: global("g", "1", `"x"`), build: `push 0 int 1 glob "g" apply apply`},
		{typ: "Int", e: app(`(let (("v" (Int -> Int) "h")) "v")`, "3"), build: "int 3 alloc 1 push 4 update 1 push 0 slide 1 apply"},
		{typ: "Int", e: `(let (("v" Int "x")) "v")`, build: "alloc 1 push 1 update 1 push 0 slide 1", work: "alloc 1 push 1 update 1 push 0 eval slide 1", end: "alloc 1 push 1 update 1 push 0 update 5 pop 4 unwind"},
		{typ: list, e: `(let (("v" (List Int) "w") ("w" (List Int) ` + cons(`"x"`, `"v"`) + `)) "w")`, build: `alloc 2 push 0 update 2 push 1 push 3 pack "Cons" update 1 push 0 slide 2`,
			work: `alloc 2 push 0 update 2 push 1 push 3 pack "Cons" update 1 push 0 eval slide 2`, end: `alloc 2 push 0 update 2 push 1 push 3 pack "Cons" update 1 push 0 update 6 pop 5 unwind`},
		{typ: list, e: `(let (("v" (List Int) "l")) (let (("w" (List Int) "v")) ` + cons(`"x"`, `"w"`) + `))`, build: `alloc 1 push 2 update 1 alloc 1 push 1 update 1 push 0 push 3 pack "Cons" slide 1 slide 1`,
			work: `alloc 1 push 2 update 1 alloc 1 push 1 update 1 push 0 push 3 pack "Cons" slide 1 slide 1`, end: `alloc 1 push 2 update 1 alloc 1 push 1 update 1 push 0 push 3 pack "Cons" update 6 pop 5 unwind`},
		{typ: "Int", e: op("-", `"x"`, "1"), build: `push 0 glob "m!1" apply`, work: "int 1 push 1 eval arith -", end: "int 1 push 1 eval arith -" + closing, one: "1 int 1 push 1 eval arith - update 2 pop 1 unwind"},
		{typ: "Int", e: op("-", app(`"h"`, `"x"`), `"x"`), build: `push 0 push 3 glob "m!1" apply apply`, work: "push 0 eval push 1 push 4 apply eval arith -", end: "push 0 eval push 1 push 4 apply eval arith -" + closing, one: "2 push 1 eval push 2 push 2 apply eval arith - update 3 pop 2 unwind"},
		{typ: "Int", e: seq(`"l"`, `"x"`), build: `push 0 push 2 glob "m!1" apply apply`, work: "push 1 eval pop 1 push 0 eval", end: "push 1 eval pop 1 push 0" + closing, one: "2 push 0 eval pop 1 push 1 update 3 pop 2 unwind"},
		{typ: "Int", e: `(hard "v" Int "x" "v")`, build: `push 0 glob "m!1" apply`, work: "push 0 eval push 0 eval slide 1", end: "push 0 eval push 0 update 5 pop 4 unwind", one: "1 push 0 eval push 0 update 3 pop 2 unwind"},
		{typ: "Int", e: "(fail 3 Int)", build: `glob "m!1"`, end: "fail 3", one: "0 fail 3"},
		{typ: "Int", e: `(case "x" (else "x"))`, build: `push 0 glob "m!1" apply`, work: "push 0 eval pop 1 push 0 eval", end: "push 0 eval pop 1 push 0" + closing, one: "1 push 0 eval pop 1 push 0 update 2 pop 1 unwind"},
		{typ: "Int", e: `(case 1 (int 1 2))`, build: `glob "m!1"`, work: "int 1 testint 1 5 pop 1 int 2 jump 6 fail 2", end: "int 1 testint 1 7 pop 1 int 2 update 4 pop 3 unwind fail 2", one: "0 int 1 testint 1 6 pop 1 int 2 update 1 unwind fail 2"},
		{typ: "Int", e: `(case "l" (con "Nil" () 0) (con "Cons" ("u" "v") "u"))`, build: `push 1 glob "m!1" apply`,
			work: `push 1 eval testcon "Nil" 6 split "Nil" int 0 jump 13 testcon "Cons" 12 split "Cons" push 0 eval slide 2 jump 13 fail 2`,
			end:  `push 1 eval testcon "Nil" 8 split "Nil" int 0 update 4 pop 3 unwind testcon "Cons" 14 split "Cons" push 0 update 6 pop 5 unwind fail 2`,
			one:  `1 push 0 eval testcon "Nil" 8 split "Nil" int 0 update 2 pop 1 unwind testcon "Cons" 14 split "Cons" push 0 update 4 pop 3 unwind fail 2`},
		{typ: list, e: `(case "l" (con "Cons" ("u" "v") "v") (else "l"))`, build: `push 1 glob "m!1" apply`,
			work: `push 1 eval testcon "Cons" 8 split "Cons" push 1 eval slide 2 jump 11 pop 1 push 1 eval`,
			end:  `push 1 eval testcon "Cons" 8 split "Cons" push 1 update 6 pop 5 unwind pop 1 push 1` + closing,
			one:  `1 push 0 eval testcon "Cons" 8 split "Cons" push 1 update 4 pop 3 unwind pop 1 push 0 update 2 pop 1 unwind`},
	} {
		w.check(t)
	}
}

// TestOperators: P18.1: each operator by its number, its second operand worked out first.
func TestOperators(t *testing.T) {
	for i, name := range strings.Fields("+ - * / % == /= < <= > >=") {
		typ := "Int"
		if i >= 5 {
			typ = "Bool"
		}
		x := compiled(t, read(t, fn("f", "", typ, op(name, "1", "2"))))
		want := []api.Instr{{Op: api.OpInt, A: 2}, {Op: api.OpInt, A: 1}, {Op: api.OpArith, A: i + 1}, {Op: api.OpUpdate, A: 1}, {Op: api.OpUnwind}}
		if !slices.Equal(x.Globals[0].Code, want) {
			t.Error(name, x.Globals[0].Code)
		}
	}
	for how := 1; how <= 4; how++ {
		checkCodes(t, fn("f", "", "Int", fmt.Sprintf("(fail %d Int)", how)), "f", fmt.Sprint("0 fail ", how))
	}
}

// TestPlaces: where locals lie: parameters, names of lets, hards and alternatives, beneath what is built on them.
func TestPlaces(t *testing.T) {
	checkCodes(t, fn("f", "a Int, b Int, c Int", "(Triple Int Int Int)", app(`(con "Triple" Int Int Int)`, `"a"`, `"b"`, `"c"`)), "f", `3 push 2 push 2 push 2 pack "Triple" update 4 pop 3 unwind`)
	checkCodes(t, fn("f", "a Int, b Int, c Int", "(Triple Int Int Int)", app(`(con "Triple" Int Int Int)`, `"c"`, `"b"`, `"a"`)), "f", `3 push 0 push 2 push 4 pack "Triple" update 4 pop 3 unwind`)
	// an alternative's first name lies highest
	checkCodes(t, fn("f", "t (Triple Int Int Int)", list, `(case "t" (con "Triple" ("u" "v" "w") `+cons(`"u"`, cons(`"v"`, cons(`"w"`, none)))+`))`), "f",
		`1 push 0 eval testcon "Triple" 14 split "Triple" pack "Nil" push 3 pack "Cons" push 2 pack "Cons" push 1 pack "Cons" update 5 pop 4 unwind fail 2`)
	// what is looked at lies nowhere when its alternative's names do
	checkCodes(t, fn("f", "p (Pair Int Int)", "Int", op("+", `(case "p" (con "Pair" ("u" "v") (case "u" (int 0 "v") (else "u"))))`, "1")), "f",
		`1 int 1 push 1 eval testcon "Pair" 17 split "Pair" push 0 eval testint 0 12 pop 1 push 1 eval jump 15 pop 1 push 0 eval slide 2 jump 18 fail 2 arith + update 2 pop 1 unwind`)
	// all names of a let lie in its order, whichever Value stands ahead
	checkCodes(t, fn("f", "", list, `(let (("a" (List Int) "c") ("b" (List Int) "a") ("c" (List Int) `+cons("1", `"b"`)+`)) "a")`), "f",
		`0 alloc 3 push 0 update 3 push 2 update 2 push 1 int 1 pack "Cons" update 1 push 2 update 4 pop 3 unwind`)
	// a let in a Value, in an argument, and in an alternative
	checkCodes(t, fn("f", "x Int", list, `(let (("a" (List Int) (let (("b" (List Int) `+cons(`"x"`, `"a"`)+`)) "b"))) `+cons("1", `"a"`)+`)`), "f",
		`1 alloc 1 alloc 1 push 1 push 3 pack "Cons" update 1 push 0 slide 1 update 1 push 0 int 1 pack "Cons" update 3 pop 2 unwind`)
	checkCodes(t, fn("f", "x Int", list, cons("2", `(let (("b" (List Int) `+cons(`"x"`, `"b"`)+`)) "b")`)), "f",
		`1 alloc 1 push 0 push 2 pack "Cons" update 1 push 0 slide 1 int 2 pack "Cons" update 2 pop 1 unwind`)
	checkCodes(t, fn("f", "l "+list, list, `(case "l" (con "Cons" ("u" "v") (let (("b" (List Int) `+cons(`"u"`, `"b"`)+`)) "b")) (else (let (("d" (List Int) "l")) "d")))`), "f",
		`1 push 0 eval testcon "Cons" 13 split "Cons" alloc 1 push 0 push 2 pack "Cons" update 1 push 0 update 5 pop 4 unwind pop 1 alloc 1 push 1 update 1 push 0 update 3 pop 2 unwind`)
	// a hard within a hard's Value, and beneath operators
	checkCodes(t, fn("f", "x Int", "Int", `(hard "a" Int (hard "b" Int "x" (op * "b" "b")) (op + "a" (hard "c" Int 1 "c")))`), "f",
		`1 push 0 eval push 0 eval push 1 eval arith * slide 1 int 1 push 0 eval slide 1 push 1 eval arith + update 3 pop 2 unwind`)
	// cases within what is looked at
	checkCodes(t, fn("f", "x Int", "Int", `(case (case "x" (int 1 2) (int 2 3)) (int 3 4) (else "x"))`), "f",
		`1 push 0 eval testint 1 6 pop 1 int 2 jump 11 testint 2 10 pop 1 int 3 jump 11 fail 2 testint 3 17 pop 1 int 4 update 2 pop 1 unwind pop 1 push 0 update 2 pop 1 unwind`)
}

// TestSuspended: P18.1: the names of suspended expressions, in the order in which they are met; a definition's code first, then theirs.
func TestSuspended(t *testing.T) {
	// the last argument is built first
	checkCodes(t, fn("f", "x Int", "(Pair Int Int)", app(`(con "Pair" Int Int)`, op("+", `"x"`, "1"), op("*", `"x"`, "2"))),
		"f", `1 push 0 glob "f!1" apply push 1 glob "f!2" apply pack "Pair" update 2 pop 1 unwind`,
		"f!1", "1 int 2 push 1 eval arith * update 2 pop 1 unwind", "f!2", "1 int 1 push 1 eval arith + update 2 pop 1 unwind")
	// arguments ahead of the head; Values in their order, then the body; alternatives in theirs
	checkCodes(t, fn("f", "x Int", "Int", app(`(case "x" (else (global "f")))`, op("+", `"x"`, "1"))),
		"f", `1 push 0 glob "f!1" apply push 1 glob "f!2" apply apply update 2 pop 1 unwind`,
		"f!1", "1 int 1 push 1 eval arith + update 2 pop 1 unwind", "f!2", `1 push 0 eval pop 1 glob "f" update 2 pop 1 unwind`)
	checkCodes(t, fn("f", "", list, `(let (("a" Int (op + 1 "b")) ("b" Int (op + 2 "a"))) `+cons("(op + 3 4)", none)+`)`),
		"f", `0 alloc 2 push 0 glob "f!1" apply update 2 push 1 glob "f!2" apply update 1 pack "Nil" glob "f!3" pack "Cons" update 3 pop 2 unwind`,
		"f!1", "1 push 0 eval int 1 arith + update 2 pop 1 unwind", "f!2", "1 push 0 eval int 2 arith + update 2 pop 1 unwind", "f!3", "0 int 4 int 3 arith + update 1 unwind")
	// what is met within them has numbers behind all that f itself met
	checkCodes(t, fn("f", "x Int", "Int", global("f", op("+", "1", global("f", op("+", "2", global("f", op("+", "3", `"x"`))))))),
		"f", `1 push 0 glob "f!1" apply glob "f" apply update 2 pop 1 unwind`,
		"f!1", `1 push 0 glob "f!2" apply glob "f" apply eval int 1 arith + update 2 pop 1 unwind`,
		"f!2", `1 push 0 glob "f!3" apply glob "f" apply eval int 2 arith + update 2 pop 1 unwind`,
		"f!3", "1 push 0 eval int 3 arith + update 2 pop 1 unwind")
	checkCodes(t, fn("f", "x Int", "(Pair Int Int)", app(`(con "Pair" Int Int)`, op("+", "1", global("g", op("+", "2", `"x"`))), op("+", "3", global("g", op("+", "4", `"x"`)))))+fn("g", "y Int", "Int", `"y"`),
		"g", "1 push 0 update 2 pop 1 unwind",
		"f", `1 push 0 glob "f!1" apply push 1 glob "f!2" apply pack "Pair" update 2 pop 1 unwind`,
		"f!1", `1 push 0 glob "f!3" apply glob "g" apply eval int 3 arith + update 2 pop 1 unwind`,
		"f!2", `1 push 0 glob "f!4" apply glob "g" apply eval int 1 arith + update 2 pop 1 unwind`,
		"f!3", "1 push 0 eval int 4 arith + update 2 pop 1 unwind", "f!4", "1 push 0 eval int 2 arith + update 2 pop 1 unwind")
	// an expression that stands as it is worked out is not suspended, whatever stands around it
	checkCodes(t, fn("f", "x Int", "Int", `(hard "v" Int (op + "x" 1) (seq (case (op * "v" 2) (else 1)) (op - 1 2)))`),
		"f", "1 int 1 push 1 eval arith + int 2 push 1 eval arith * pop 1 int 1 pop 1 int 2 int 1 arith - update 3 pop 2 unwind")
	// names that are taken are passed over, their numbers with them; those of others are not
	taken := func(names ...string) string {
		s := fn("f", "", "(Pair Int Int)", app(`(con "Pair" Int Int)`, "(fail 1 Int)", "(fail 2 Int)"))
		for _, name := range names {
			s += fn(name, "", "Int", "1")
		}
		return s
	}
	for _, x := range []struct {
		names       []string
		first, next string
	}{
		{nil, "f!1", "f!2"}, {[]string{"f!1"}, "f!2", "f!3"}, {[]string{"f!2"}, "f!1", "f!3"}, {[]string{"f!1", "f!2"}, "f!3", "f!4"}, {[]string{"f!3", "f!01", "f! 1", "f!", "f!1!1", "g!1", "f1", "!1"}, "f!1", "f!2"},
	} {
		want := []string{"f", `0 glob "` + x.first + `" glob "` + x.next + `" pack "Pair" update 1 unwind`, x.first, "0 fail 2", x.next, "0 fail 1"}
		for _, name := range x.names {
			want = append(want, name, "0 int 1 update 1 unwind")
		}
		checkCodes(t, taken(x.names...), want...)
	}
	// of f, and of a definition that is called as one of its own would be
	checkCodes(t, fn("f", "", list, cons("(fail 1 Int)", none))+fn("f!1", "", list, cons("(fail 2 Int)", none))+fn("f!1!1", "", list, cons("(fail 3 Int)", none)),
		"f", `0 pack "Nil" glob "f!2" pack "Cons" update 1 unwind`, "f!2", "0 fail 1",
		"f!1", `0 pack "Nil" glob "f!1!2" pack "Cons" update 1 unwind`, "f!1!2", "0 fail 2",
		"f!1!1", `0 pack "Nil" glob "f!1!1!1" pack "Cons" update 1 unwind`, "f!1!1!1", "0 fail 3")
	// ten and more: numbers in base ten, names by their bytes
	x := compiled(t, read(t, fn("f", "", "(List Int)", nested(12, "(app (app (con \"Cons\" Int) (fail 1 Int)) ", none, ")"))))
	want := []string{"f", "f!1", "f!10", "f!11", "f!12", "f!2", "f!3", "f!4", "f!5", "f!6", "f!7", "f!8", "f!9"}
	if !slices.Equal(names(x), want) {
		t.Error(names(x))
	}
}

// TestFree: P18.1: the parameters of a suspended expression: its free names, in the order in which they first stand.
func TestFree(t *testing.T) {
	locals := "a Int, b Int, c Int, h (Int -> (Int -> Int)), l " + list + ", p (Pair Int Int)"
	q := fn("q", locals, "Int", `"a"`)
	at := map[string]int{"a": 6, "b": 5, "c": 4, "h": 3, "l": 2, "p": 1}
	for _, x := range []struct{ e, free string }{
		{op("+", `"a"`, `"b"`), "a b"}, {op("+", `"b"`, `"a"`), "b a"}, {op("+", `"a"`, `"a"`), "a"}, {op("+", "1", "2"), ""}, {"(fail 1 Int)", ""},
		{seq(`"l"`, `"c"`), "l c"}, {seq(`"c"`, op("+", `"b"`, `"c"`)), "c b"},
		{op("+", app(`"h"`, `"c"`, `"a"`), `"b"`), "h c a b"}, {op("+", `"b"`, app(`"h"`, `"a"`, `"c"`)), "b h a c"},
		{`(hard "u" Int "b" (op + "u" "a"))`, "b a"}, {`(hard "u" Int 1 "u")`, ""}, {`(hard "u" Int (hard "v" Int "c" "v") (op + "a" "u"))`, "c a"},
		{seq(`(let (("u" Int "v") ("v" Int (op + "u" "c"))) (op * "u" "b"))`, `"a"`), "c b a"},
		{seq("1", `(let (("u" Int "b")) "a")`), "b a"}, // a Value ahead of the body
		{`(case "p" (con "Pair" ("u" "v") (op + "v" "c")) (else "a"))`, "p c a"},
		{`(case "b" (int 1 "c") (int 2 "a") (else "b"))`, "b c a"},
		{`(case (op + "c" "b") (int 1 "a") (else "c"))`, "c b a"},
		{`(case "l" (con "Cons" ("u" "v") (case "v" (con "Cons" ("w" "z") (op + "w" "u")) (else "c"))) (con "Nil" () "a"))`, "l c a"},
		{op("+", global("q", `"c"`, `"b"`, `"a"`, `"h"`, `"l"`, `"p"`), "1"), "c b a h l p"},
		{op("+", global("q", `"c"`, `"c"`, op("+", `"b"`, `"c"`), `"h"`, `"l"`, `"p"`), `"a"`), "c b h l p a"}, // those of what is suspended within
		{op("+", "1", global("q", "1", "2", `(hard "u" Int "b" (op + "u" "a"))`, `"h"`, `"l"`, `"p"`)), "b a h l p"},
	} {
		got := compiled(t, read(t, fn("f", locals, "(List Int)", cons(x.e, none))+q))
		free := strings.Fields(x.free)
		var want []api.Instr
		want = append(want, api.Instr{Op: api.OpPack, A: api.ShapeNil})
		for i := len(free) - 1; i >= 0; i-- {
			d := 8 + len(free) - 1 - i
			want = append(want, api.Instr{Op: api.OpPush, A: d - 1 - at[free[i]]})
		}
		f, one := named(t, got, "f"), named(t, got, "f!1")
		if len(f.Code) <= len(want)+1 || !slices.Equal(f.Code[:len(want)], want) || f.Code[len(want)].Op != api.OpGlobal || one.Arity != len(free) {
			t.Errorf("%s: %s\nfree: %s", x.e, shown(got), x.free)
		}
		checkPlain(t, read(t, fn("f", locals, "(List Int)", cons(x.e, none))+q), count{})
	}
}

// TestFunctions: P18.1: constructors as functions: when they are there, what they are called, their code.
func TestFunctions(t *testing.T) {
	eight := `(data M.T () ("M.C"` + strings.Repeat(" Int", 8) + `))`
	checkCodes(t, eight+fn("f", "", strings.Repeat("(Int -> ", 8)+"M.T"+strings.Repeat(")", 8), `(con "M.C")`), "f", `0 glob "M.C" update 1 unwind`, "M.C", `8 pack "M.C" update 1 unwind`)
	for lacks := range 9 { // fewer arguments than fields, down to none; and as many
		args := each(8-lacks, "#")
		slices.Reverse(args)
		build := "0 "
		for _, a := range args {
			build += "int " + a + " "
		}
		slices.Reverse(args)
		text := eight + fn("f", "", strings.Repeat("(Int -> ", lacks)+"M.T"+strings.Repeat(")", lacks), app(`(con "M.C")`, args...))
		if lacks == 0 {
			checkCodes(t, text, "f", build+`pack "M.C" update 1 unwind`)
			continue
		}
		checkCodes(t, text, "f", build+`glob "M.C" `+strings.Repeat("apply ", 8-lacks)+`update 1 unwind`, "M.C", `8 pack "M.C" update 1 unwind`)
	}
	// one for all definitions in which it stands; none where it is applied to all its fields, or has none
	half := func(name string) string {
		return fn(name, "x Int", "((List Int) -> (List Int))", app(`(con "Cons" Int)`, `"x"`))
	}
	checkCodes(t, half("a")+half("b")+fn("d", "", list, cons("1", none)),
		"a", `1 push 0 glob "Cons" apply update 2 pop 1 unwind`, "b", `1 push 0 glob "Cons" apply update 2 pop 1 unwind`, "d", `0 pack "Nil" int 1 pack "Cons" update 1 unwind`, "Cons", `2 pack "Cons" update 1 unwind`)
	// with a head that comes to it, it is one that lacks fields, though it is given all
	checkCodes(t, fn("a", "", list, app(`(let (("v" (Int -> ((List Int) -> (List Int))) (con "Cons" Int))) "v")`, "1", none)),
		"a", `0 pack "Nil" int 1 alloc 1 glob "Cons" update 1 push 0 slide 1 apply apply update 1 unwind`, "Cons", `2 pack "Cons" update 1 unwind`)
	// a name that others have: as many ' as are needed
	const con = `(data M.T () ("A" Int) ("A'" Int) ("f!1" Int) ("A''''" Int))`
	use := func(name string, cons ...string) string {
		s := "1"
		for _, c := range cons {
			s = seq(`(con "`+c+`")`, s)
		}
		return fn(name, "", "Int", s)
	}
	for _, x := range []struct{ text, want string }{
		{use("f", "A"), "A f"},
		{use("A", "A"), "A A'"},
		{use("f", "A", "A'"), "A A' f"},
		{use("A", "A'", "A"), "A A' A''"}, // A is called A', and A' A''
		{use("A'", "A", "A'"), "A A' A''"},
		{use("A", "A'", "A") + use("A'"), "A A' A'' A'''"},
		{use("A", "A", "A'", "A''''") + use("A'") + use("A''"), "A A' A'' A''' A'''' A'''''"},
		{use("A", "A", "A'", "A''''") + use("A'") + use("A''") + use("A'''"), "A A' A'' A''' A'''' A''''' A''''''"},
		{use("A''", "A", "A'"), "A A' A''"},
		{use("f", "f!1"), "f f!1"},
		{fn("f", "", list, cons("(fail 1 Int)", none)) + use("g", "f!1"), "f f!1 f!1' g"}, // as a suspended expression is
		{fn("f", "", list, cons("(fail 1 Int)", none)) + use("f!1'", "f!1"), "f f!1 f!1' f!1''"},
		{fn("f", "", list, cons("(fail 1 Int)", none)) + fn("f!1", "", "Int", "1") + use("g", "f!1"), "f f!1 f!1' f!2 g"},
	} {
		if got := strings.Join(names(compiled(t, read(t, con+x.text))), " "); got != x.want {
			t.Errorf("%s: %s, want %s", x.text, got, x.want)
		}
		checkPlain(t, read(t, con+x.text), count{})
	}
	// which is which
	checkCodes(t, con+use("A", "A'", "A"), "A", `0 glob "A'" eval pop 1 glob "A''" eval pop 1 int 1 update 1 unwind`, "A'", `1 pack "A" update 1 unwind`, "A''", `1 pack "A'" update 1 unwind`)
}

// TestShapes: P18.1: the seven, then the others that stand in instructions, by their bytes, with the numbers of their fields.
func TestShapes(t *testing.T) {
	const datas = `(data M.T () ("z" Int) ("Z") ("M.a" Int Int) ("False ") ("~") (" ")) (data M.U () ("b" M.U M.U Int) ("Fals"))`
	all := map[string]int{"z": 1, "Z": 0, "M.a": 2, "False ": 0, "~": 0, " ": 0, "b": 3, "Fals": 0}
	for _, x := range []struct {
		body string
		want []string
	}{
		{"1", nil},
		{seq(`(con "z")`, "1"), []string{"z"}}, // in the code of the constructor as a function
		{seq(`(con "~")`, seq(`(con "Z")`, seq(`(con "False ")`, seq(`(con " ")`, seq(`(con "Fals")`, "1"))))), []string{" ", "Fals", "False ", "Z", "~"}},
		{`(case (con "Nil" M.U) (con "Cons" ("t" "u") (case "t" (con "b" ("v" "w" "y") "y") (con "Fals" () 1))))`, []string{"Fals", "b"}}, // looked for
		{`(case (app (global "f") 1) (int 1 (case (con "True") (con "False" () (case (con "Nil" M.T) (con "Cons" ("t" "u") (case "t" (con "M.a" ("v" "w") "w") (else 2)))))))) `, []string{"M.a"}},
	} {
		got := compiled(t, read(t, datas+fn("f", "x Int", "Int", x.body)))
		want := table(t, "").Shapes
		for _, name := range x.want {
			want = append(want, api.Shape{Name: name, Fields: all[name]})
		}
		if !slices.Equal(got.Shapes, want) {
			t.Errorf("%s: %v, want %v", x.body, got.Shapes, want)
		}
	}
	if got, e := compile.Compile(api.Program{}); e != api.OK || !slices.Equal(got.Shapes, table(t, "").Shapes) || len(got.Globals) != 0 {
		t.Error(got, e)
	}
}

// TestSorted: P18.1: globals by the bytes of their names.
func TestSorted(t *testing.T) {
	l := []string{"b", "a", "a!", "a ", "aa", "B", "~", " ", "\\\"", "a'", "0", "10", "9", "M.x", "M", "a!1"}
	text := ""
	for _, name := range l {
		text += fn(strings.NewReplacer(`\`, `\\`, `"`, `\"`).Replace(name), "", list, cons("(fail 1 Int)", none))
	}
	x := compiled(t, read(t, text))
	got := names(x)
	if len(got) != 2*len(l) || !slices.IsSorted(got) {
		t.Errorf("%q", got)
	}
	for _, name := range l {
		if g := named(t, x, name); x.Globals[g.Code[1].A].Code[0] != (api.Instr{Op: api.OpFail, A: 1}) || !strings.HasPrefix(x.Globals[g.Code[1].A].Name, name+"!") {
			t.Errorf("%q: %v", name, g)
		}
	}
}
