package worker_test

import (
	"fmt"
	"strings"
	"testing"
)

// f writes a definition with a parameter of each kind, behind the library: so that is Known however great the definition is.
func f(typ, body string) string {
	return library + fn("f", "n Int, m Int, b Bool, l "+list+", h (Int -> Int), p (Pair Int Int)", typ, body)
}

func add(a, b string) string { return global("add", a, b) }

const double = `(op * "n" 2)`

// TestLibrary: what the tests by hand take for granted.
func TestLibrary(t *testing.T) {
	for name, want := range map[string]string{
		"add": "1 1", "k": "1 0", "g": "0", "id": "1", "loop": "2", "fac": "1", "head": "1", "len": "2", "sum": "3", "never": "4", "not": "1", "fst": "1",
		"from": "0", "rev": "2 0", "take": "1 0", "map": "0 1", "ap": "1 0", "part": "0", "plus": "", "seven": "",
	} {
		checkNumbers(t, library, name, want)
	}
}

// TestExamples: P16.1: the chapter's.
func TestExamples(t *testing.T) {
	gn, gm := global("g", `"n"`), global("g", `"m"`)
	for _, x := range []struct{ typ, body, want string }{
		{"Int", add(`"n"`, "1"), add(`"n"`, "1")},
		{"Int", add(double, gm), hard("a", "Int", double, hard("c", "Int", gm, add(`"a"`, `"c"`)))},
		{"Int", global("k", gn, double), hard("a", "Int", gn, global("k", `"a"`, double))},
		{"Int", add(add(double, "1"), `"m"`), hard("a", "Int", hard("c", "Int", double, add(`"c"`, "1")), add(`"a"`, `"m"`))},
		{list, cons(add(double, "1"), none), cons(add(double, "1"), none)},
		{"Int", global("g", add(double, "1")), global("g", add(double, "1"))},
		{"Int", `(case ` + add(double, "1") + ` (int 0 "m") (else ` + add(`"m"`, gn) + `))`, `(case ` + hard("a", "Int", double, add(`"a"`, "1")) + ` (int 0 "m") (else ` + hard("c", "Int", gn, add(`"m"`, `"c"`)) + `))`},
		{"Int", global("g", `(case "n" (int 0 `+add(double, "1")+`) (else 2))`), global("g", `(case "n" (int 0 `+hard("a", "Int", double, add(`"a"`, "1"))+`) (else 2))`)},
		{"Int", `(let (("x" Int ` + add(double, "1") + `)) ` + add(`"x"`, gn) + `)`, `(let (("x" Int ` + add(double, "1") + `)) ` + hard("a", "Int", gn, add(`"x"`, `"a"`)) + `)`},
	} {
		checkSplit(t, f(x.typ, x.body), f(x.typ, x.want))
	}
}

// TestWaits: each kind of expression in the place of an argument that is needed: it is worked out first, or stays.
func TestWaits(t *testing.T) {
	for _, x := range []struct {
		call, typ, result string
		waits, stays      []string
	}{
		{"id", "Int", "Int", []string{
			double, op("/", "1", "0"), seq("1", "2"), `(case "n" (else 1))`, `(case "l" (con "Cons" ("x" "t") "x"))`, `(let (("x" Int 1)) 2)`, `(let (("x" Int "x")) "x")`, hard("x", "Int", "1", `"x"`), "(fail 1 Int)", "(fail 4 Int)",
			app(`"h"`, `"n"`), global("g", "1"), global("k", "1", `"m"`), global("part", "1", `"m"`), global("plus", "1", `"m"`), global("ap", `"h"`, "1"),
			app(`(case "n" (else "h"))`, "1"), app(`(let (("x" (Int -> Int) "h")) "x")`, "1"), app(seq("1", `"h"`), "1"), app(hard("x", "(Int -> Int)", `"h"`, `"x"`), "1"), app("(fail 1 (Int -> Int))", "1"), app(`(case "n" (else (global "add")))`, "1", "2"),
		}, []string{`"n"`, "1", "-1", "4611686018427387903", `(global "seven")`}},
		{"not", "Bool", "Bool", []string{op("<", `"n"`, `"m"`), global("not", `"b"`), `(case "b" (else "b"))`, fail("Bool"), seq("1", yes)}, []string{`"b"`, yes, `(con "False")`}},
		{"fst", "(Pair Int Int)", "Int", []string{`(case "n" (else "p"))`, fail("(Pair Int Int)"), app(fail("(Int -> (Pair Int Int))"), "1")}, []string{`"p"`, app(`(con "Pair" Int Int)`, "1", "2"), app(`(con "Pair" Int Int)`, fail("Int"), double)}},
		{"head", list, "Int", []string{global("from", "1"), global("rev", `"l"`, none), `(case "l" (else "l"))`, `(let (("x" (List Int) "l")) "x")`, fail(list), app(`(case "n" (else (con "Cons" Int)))`, "1", `"l"`), app(seq("1", app(`(con "Cons" Int)`, "1")), none)}, []string{`"l"`, none, cons("1", none), cons(fail("Int"), fail(list)), cons(double, global("from", "1"))}},
	} {
		for _, a := range x.waits {
			checkSplit(t, f(x.result, global(x.call, a)), f(x.result, hard("a", x.typ, a, global(x.call, `"a"`))))
		}
		for _, a := range x.stays {
			checkSplit(t, f(x.result, global(x.call, a)), f(x.result, global(x.call, a)))
		}
	}
}

// TestNumbers: whatever number from 1 on a parameter has, its argument is worked out, to its head form and no further (P16.2); of 0 not.
func TestNumbers(t *testing.T) {
	endless := global("from", `"n"`)
	for _, name := range []string{"head", "len", "sum", "never"} {
		checkSplit(t, f("Int", global(name, endless)), f("Int", hard("a", list, endless, global(name, `"a"`))))
		checkSplit(t, f("Int", global(name, cons(double, endless))), f("Int", global(name, cons(double, endless))))
		stuck := `(case "n" (else ` + cons(double, fail(list)) + `))`
		checkSplit(t, f("Int", global(name, stuck)), f("Int", hard("a", list, stuck, global(name, `"a"`))))
	}
	checkSplit(t, f("Int", global("loop", double)), f("Int", hard("a", "Int", double, global("loop", `"a"`))))
	checkSplit(t, f("Int", global("g", double)), f("Int", global("g", double)))
	checkSplit(t, f(list, global("rev", endless, endless)), f(list, hard("a", list, endless, global("rev", `"a"`, endless))))
	checkSplit(t, f(list, global("take", double, endless)), f(list, hard("a", "Int", double, global("take", `"a"`, endless))))
	checkSplit(t, f(list, global("map", `"h"`, endless)), f(list, hard("a", list, endless, global("map", `"h"`, `"a"`))))
	checkSplit(t, f(list, global("map", `(case "n" (else "h"))`, endless)), f(list, hard("a", list, endless, global("map", `(case "n" (else "h"))`, `"a"`))))
}

// TestFunctions: an argument of a function type is none that is needed, though its parameter has a number.
func TestFunctions(t *testing.T) {
	function := `(case "n" (else "h"))`
	for _, a := range []string{function, fail("(Int -> Int)"), seq("1", `"h"`), global("add", double), `(let (("x" (Int -> Int) "h")) "x")`} {
		checkSplit(t, f("Int", global("ap", a, double)), f("Int", global("ap", a, double)))
	}
	two := fn("two", "u (Int -> Int), v Int, w ((Int -> Int) -> Int)", "Int", op("+", app(`"w"`, `"u"`), app(`"u"`, `"v"`)))
	checkNumbers(t, two, "two", "1 0 1")
	use := global("two", function, double, `(case "n" (else (fail 1 ((Int -> Int) -> Int))))`)
	checkSplit(t, f("Int", use)+two, f("Int", use)+two)
	three := fn("three", "u (Int -> Int), v Int", "Int", op("+", app(`"u"`, "1"), `"v"`))
	checkNumbers(t, three, "three", "1 1")
	checkSplit(t, f("Int", global("three", function, double))+three, f("Int", hard("a", "Int", double, global("three", function, `"a"`)))+three)
}

// TestNotKnown: nothing is needed of a definition that is not Known, nor of one whose parameter or result is unknown, nor of one whose result is a function.
func TestNotKnown(t *testing.T) {
	six := fn("six", numbers(6, "l# (List Int),"), "Int", op("+", global("sum", `"l0"`), global("sum", `"l5"`)))
	five := fn("five", numbers(5, "l# (List Int),"), "Int", op("+", global("sum", `"l0"`), global("sum", `"l4"`)))
	args := each(6, global("from", "#"))
	checkNumbers(t, library+six, "six", "?")
	checkNumbers(t, library+five, "five", "3 0 0 0 3")
	checkSplit(t, f("Int", global("six", args...))+six, f("Int", global("six", args...))+six)
	checkSplit(t, f("Int", global("five", args[:5]...))+five, f("Int", hard("a", list, args[0], hard("c", list, args[4], global("five", `"a"`, args[1], args[2], args[3], `"c"`))))+five)
	odd := fn("odd", "u "+unknown+", x Int", "Int", seq(app(`"u"`, "1", none), `"x"`)) + fn("out", "x Int", unknown, seq(`"x"`, fail(unknown)))
	checkNumbers(t, odd, "odd", "0 1")
	checkNumbers(t, odd, "out", "0")
	u := `(case "n" (else ` + fail(unknown) + `))`
	checkSplit(t, f("Int", global("odd", u, double))+odd, f("Int", hard("a", "Int", double, global("odd", u, `"a"`)))+odd)
	checkSplit(t, f(list, app(global("out", double), "1", none))+odd, f(list, app(global("out", double), "1", none))+odd)
	// a list of what is unknown is a list
	data := fn("all", "l (List "+unknown+")", "Int", `(case "l" (else 1))`)
	checkNumbers(t, data, "all", "1")
	l := `(case "n" (else (con "Nil" ` + unknown + `)))`
	checkSplit(t, f("Int", global("all", l))+data, f("Int", hard("a", "(List "+unknown+")", l, global("all", `"a"`)))+data)
}

// TestSpines: fewer, as many and more arguments than a definition takes.
func TestSpines(t *testing.T) {
	stays := func(typ, body string) {
		t.Helper()
		checkSplit(t, f(typ, body), f(typ, body))
	}
	stays("(Int -> (Int -> Int))", global("add"))
	stays("(Int -> Int)", global("add", double))
	stays("(Int -> Int)", seq("1", global("add", add(double, "1")))) // what is within is built
	stays("Int", global("part", double, double))                     // more; the result is a function
	stays("(Int -> Int)", global("part", double))
	stays("Int", global("plus", double, double))
	stays("Int", app(`"h"`, double))
	stays("Int", app(fail("(Int -> Int)"), double))
	stays("(List Int)", cons(double, global("from", double)))
	stays("((List Int) -> (List Int))", app(`(con "Cons" Int)`, add(double, "1")))
	checkSplit(t, f("Int", add(double, double)), f("Int", hard("a", "Int", double, hard("c", "Int", double, add(`"a"`, `"c"`)))))
	// a definition that takes one more than it had by its type's looks
	wide := fn("wide", "u Int, v Int", "(Int -> Int)", `(case (op + "u" "v") (else (global "id")))`)
	checkNumbers(t, wide+library, "wide", "0 0")
	checkSplit(t, f("Int", global("wide", double, double, double))+wide, f("Int", global("wide", double, double, double))+wide)
	ten := fn("ten", strings.TrimSuffix(numbers(10, "x# Int,"), ","), "Int", sum(each(10, `"x#"`)...))
	args := each(10, `(op + "n" #)`)
	checkNumbers(t, ten, "ten", "1 1 1 1 1 1 1 1 1 1")
	for k := range 10 {
		result := "Int"
		for range 10 - k {
			result = "(Int -> " + result + ")"
		}
		checkSplit(t, f(result, global("ten", args[:k]...))+ten, f(result, global("ten", args[:k]...))+ten)
	}
	want := global("ten", each(10, `"a#"`)...)
	for i := 9; i >= 0; i-- {
		want = hard(fmt.Sprint("a", i), "Int", args[i], want)
	}
	checkSplit(t, f("Int", global("ten", args...))+ten, f("Int", want)+ten)
}

// TestSome: of several arguments those that are needed and wait, in their order; the others are built, and stay in their places.
func TestSome(t *testing.T) {
	four := fn("four", "x Int, y Int, z "+list+", w Bool", "Int", `(case "w" (con "True" () `+op("+", `"x"`, global("len", `"z"`))+`) (con "False" () (op - "x" (case "z" (con "Cons" ("z1" "z2") "z1")))))`)
	checkNumbers(t, four+library, "four", "1 0 1 1")
	waiting := []string{double, op("+", `"m"`, "1"), global("from", `"n"`), op("<", `"n"`, `"m"`)}
	there := []string{`"n"`, "3", `"l"`, yes}
	types := []string{"Int", "Int", list, "Bool"}
	for which := range 16 {
		args, places := make([]string, 4), make([]string, 4)
		var around []int
		for i := range 4 {
			args[i] = there[i]
			if which>>i&1 == 1 {
				args[i] = waiting[i]
			}
			places[i] = args[i]
			if which>>i&1 == 1 && i != 1 {
				around = append(around, i)
				places[i] = fmt.Sprintf(`"a%d"`, i)
			}
		}
		want := global("four", places...)
		for j := len(around) - 1; j >= 0; j-- {
			want = hard(fmt.Sprint("a", around[j]), types[around[j]], args[around[j]], want)
		}
		checkSplit(t, f("Int", global("four", args...))+four, f("Int", want)+four)
	}
}

// TestNamesAlike: a local, or a constructor, that is called as a definition that needs its arguments is not that.
func TestNamesAlike(t *testing.T) {
	local := fn("u", "n Int, add (Int -> (Int -> Int))", "Int", app(`"add"`, double, double))
	checkSplit(t, library+local, library+local)
	both := fn("u", "n Int, add (Int -> (Int -> Int))", "Int", app(`"add"`, add(double, "1"), "1"))
	checkSplit(t, library+both, library+both)
	within := `(data M.T () ("add" Int Int))` + library + fn("u", "n Int", "M.T", app(`(con "add")`, double, double))
	checkSplit(t, within, within)
	// as a needed argument: a constructor does not wait, a local that is applied does
	eat := `(data M.T () ("g" Int))` + library + fn("eat", "x M.T", "Int", `(case "x" (con "g" ("y") "y"))`)
	checkSplit(t, eat+fn("u", "n Int", "Int", global("eat", app(`(con "g")`, double))), eat+fn("u", "n Int", "Int", global("eat", app(`(con "g")`, double))))
	checkSplit(t, library+fn("u", "add (Int -> Int)", "Int", global("id", app(`"add"`, "1"))), library+fn("u", "add (Int -> Int)", "Int", hard("a", "Int", app(`"add"`, "1"), global("id", `"a"`))))
}

// way says how an expression is turned.
type way int

const (
	worked way = iota
	built
)

// place is a part of an expression: how it is turned there, and what is made of the whole, by the way in which that is turned. The whole and the part are numbers; @ is a new number in each name.
type place struct {
	name string
	to   func(way) way
	text string // % is the part, and stands once
	put  string // if there is another form of it where the whole is worked out: % as well
}

func toWorked(way) way { return worked }
func toBuilt(way) way  { return built }
func toSame(w way) way { return w }

func places() []place {
	return []place{
		{"an operand", toWorked, `(op + % 1)`, ""},
		{"the other operand", toWorked, `(op < 1 %)`, ""},
		{"the first of seq", toWorked, `(seq % 1)`, ""},
		{"the second of seq", toWorked, `(seq 1 %)`, ""},
		{"what is looked at", toWorked, `(case % (int 1 2) (else 3))`, ""},
		{"an alternative", toWorked, `(case "n" (int 1 %) (else 3))`, ""},
		{"a constructor's alternative", toWorked, `(case "l" (con "Nil" () 1) (con "Cons" ("c@" "d@") %))`, ""},
		{"the last alternative", toWorked, `(case "l" (con "Nil" () 1) (else %))`, ""},
		{"a hard value", toWorked, `(hard "v@" Int % "v@")`, ""},
		{"a hard body", toWorked, `(hard "v@" Int 1 %)`, ""},
		{"a let's value", toBuilt, `(let (("v@" Int %)) "v@")`, ""},
		{"another value of a let", toBuilt, `(let (("v@" Int 1) ("u@" Int %) ("w@" Int 2)) (op + "v@" "w@"))`, ""},
		{"a let's body", toSame, `(let (("v@" Int 1)) %)`, ""},
		{"a field", toBuilt, `(case (app (app (con "Cons" Int) %) (con "Nil" Int)) (else 1))`, ""},
		{"a later field", toBuilt, `(case (app (app (con "Pair" Int Int) 1) %) (con "Pair" ("c@" "d@") "c@"))`, ""},
		{"an argument of a local", toBuilt, `(app "h" %)`, ""},
		{"an argument that is not needed", toBuilt, `(app (global "g") %)`, ""},
		{"a second argument that is not needed", toBuilt, `(app (app (global "k") 1) %)`, ""},
		{"an argument of too few", toBuilt, `(app (app (global "ap") (app (global "add") %)) 1)`, ""},
		{"an argument of a case", toBuilt, `(app (case "n" (else "h")) %)`, ""},
		{"an argument of what is stuck", toBuilt, `(app (fail 1 (Int -> Int)) %)`, ""},
		{"a needed argument", toSame, `(app (global "id") %)`, `(hard "a@" Int % (app (global "id") "a@"))`},
		{"the first of two needed ones", toSame, `(app (app (global "add") %) "n")`, `(hard "a@" Int % (app (app (global "add") "a@") "n"))`},
		{"the second of two needed ones", toSame, `(app (app (global "add") (op - "n" "m")) %)`, `(hard "e@" Int (op - "n" "m") (hard "a@" Int % (app (app (global "add") "e@") "a@")))`},
		{"a needed one beside one that is not", toSame, `(app (app (global "k") %) (op - "n" "m"))`, `(hard "a@" Int % (app (app (global "k") "a@") (op - "n" "m")))`},
		{"one that is not needed beside a needed one", toBuilt, `(app (app (global "k") (op - "n" "m")) %)`, `(hard "a@" Int (op - "n" "m") (app (app (global "k") "a@") %))`},
		{"in a head that is a case", toWorked, `(app (case % (else "h")) 1)`, ""},
		{"in a head that is a seq", toWorked, `(app (seq % "h") 1)`, ""},
		{"in a head that is a hard", toWorked, `(app (hard "v@" Int % "h") 1)`, ""},
		{"in a head that is a let, in a value", toBuilt, `(app (let (("v@" Int %)) "h") 1)`, ""},
		{"in a head's body that is an application", toBuilt, `(app (let (("v@" Int 1)) (app (global "add") %)) 1)`, ""},
	}
}

// TestPlaces: P16.1: a call with a needed argument in each place, in each place, in each place.
func TestPlaces(t *testing.T) {
	t.Parallel()
	probe := `(app (app (global "add") (op * "n" 2)) 1)`
	hardProbe := `(hard "a0" Int (op * "n" 2) (app (app (global "add") "a0") 1))`
	ways := map[way]int{}
	var text, want strings.Builder
	wholes := 0
	check := func(row ...place) {
		ahead, behind, w := "%", "%", worked
		for i, x := range row {
			if x.name == "the other operand" && i > 0 { // of a Bool
				return
			}
			in := func(s string) string { return strings.ReplaceAll(s, "@", fmt.Sprint(i+1)) }
			put := x.text
			if w == worked && x.put != "" {
				put = x.put
			}
			ahead, behind, w = strings.Replace(ahead, "%", in(x.text), 1), strings.Replace(behind, "%", in(put), 1), x.to(w)
		}
		ways[w]++
		made := probe
		if w == worked {
			made = hardProbe
		}
		typ := "Int"
		if len(row) > 0 && row[0].name == "the other operand" {
			typ = "Bool"
		}
		const params = "n Int, m Int, l (List Int), h (Int -> Int)"
		wholes++
		name := fmt.Sprint("f", wholes)
		text.WriteString(fn(name, params, typ, strings.Replace(ahead, "%", probe, 1)))
		want.WriteString(fn(name, params, typ, strings.Replace(behind, "%", made, 1)))
		if wholes%50 == 0 { // many at once, since each program is looked at as a whole
			checkSplit(t, text.String()+library, want.String()+library)
			text.Reset()
			want.Reset()
		}
	}
	all := places()
	check()
	for _, a := range all {
		check(a)
		for _, b := range all {
			check(a, b)
			for _, c := range all {
				check(a, b, c)
			}
		}
	}
	checkSplit(t, text.String()+library, want.String()+library)
	if ways[worked] < 10000 || ways[built] < 10000 {
		t.Error("too few:", ways)
	}
}

// TestCallsWithin: needed arguments that are calls with needed arguments, in each place.
func TestCallsWithin(t *testing.T) {
	one := op("-", `"n"`, "1")
	checkSplit(t, f("Int", add(add(double, one), add(one, double))),
		f("Int", hard("a", "Int", hard("c", "Int", double, hard("d", "Int", one, add(`"c"`, `"d"`))), hard("e", "Int", hard("g", "Int", one, hard("i", "Int", double, add(`"g"`, `"i"`))), add(`"a"`, `"e"`)))))
	checkSplit(t, f("Int", global("id", global("id", global("id", double)))), f("Int", hard("a", "Int", hard("c", "Int", hard("d", "Int", double, global("id", `"d"`)), global("id", `"c"`)), global("id", `"a"`))))
	checkSplit(t, f("Int", global("id", global("g", global("id", double)))), f("Int", hard("a", "Int", global("g", global("id", double)), global("id", `"a"`))))
	checkSplit(t, f("Int", global("sum", global("take", global("fac", `"n"`), global("from", global("id", double))))),
		f("Int", hard("a", list, hard("c", "Int", global("fac", `"n"`), global("take", `"c"`, global("from", global("id", double)))), global("sum", `"a"`))))
	checkSplit(t, f("Int", global("id", `(let (("x" Int `+add(double, "1")+`)) `+add(double, `"x"`)+`)`)),
		f("Int", hard("a", "Int", `(let (("x" Int `+add(double, "1")+`)) `+hard("c", "Int", double, add(`"c"`, `"x"`))+`)`, global("id", `"a"`))))
	// what is there already stays where it is
	checkSplit(t, f("Int", hard("x", "Int", add(double, "1"), add(`"x"`, double))), f("Int", hard("x", "Int", hard("a", "Int", double, add(`"a"`, "1")), hard("c", "Int", double, add(`"x"`, `"c"`)))))
	checkSplit(t, f("Int", hard("x", "Int", double, global("id", `"x"`))), f("Int", hard("x", "Int", double, global("id", `"x"`))))
}

// TestHeads: the head of a spine that is worked out is worked out, that of one that is built is built.
func TestHeads(t *testing.T) {
	call, turned := add(double, "1"), hard("a", "Int", double, add(`"a"`, "1"))
	for _, x := range []struct{ head, turned string }{
		{`(case ` + call + ` (else "h"))`, `(case ` + turned + ` (else "h"))`},
		{`(case "n" (int 1 (seq ` + call + ` "h")) (else "h"))`, `(case "n" (int 1 (seq ` + turned + ` "h")) (else "h"))`},
		{`(seq ` + call + ` "h")`, `(seq ` + turned + ` "h")`},
		{hard("x", "Int", call, `"h"`), hard("x", "Int", turned, `"h"`)},
	} {
		checkSplit(t, f("Int", app(x.head, double)), f("Int", app(x.turned, double)))
		checkSplit(t, f("Int", global("g", app(x.head, double))), f("Int", global("g", app(x.turned, double))))
	}
	// a let that is a head: its body is worked out or built as the head is, its values are built
	in := func(body string) string { return `(let (("x" Int ` + call + `)) ` + body + `)` }
	which := fn("which", "x Int", "(Int -> Int)", `(case "x" (else (global "id")))`)
	body := `(case ` + call + ` (else (global "id")))`
	checkSplit(t, f("Int", app(in(body), double))+which, f("Int", app(in(`(case `+turned+` (else (global "id")))`), double))+which)
	checkSplit(t, f("Int", app(in(global("which", call)), double))+which, f("Int", app(in(global("which", call)), double))+which)
	pair := fn("pick", "x Int", "(List (Int -> Int))", `(case "x" (else (con "Nil" (Int -> Int))))`)
	checkNumbers(t, pair, "pick", "1")
	deep := `(let (("y" Int 1)) (case ` + global("pick", double) + ` (con "Cons" ("u" "v") "u") (else "h")))`
	deepTurned := `(let (("y" Int 1)) (case ` + hard("a", "Int", double, global("pick", `"a"`)) + ` (con "Cons" ("u" "v") "u") (else "h")))`
	checkSplit(t, f("Int", app(deep, "1"))+pair, f("Int", app(deepTurned, "1"))+pair)
	checkSplit(t, f("Int", global("g", app(deep, "1")))+pair, f("Int", global("g", app(deepTurned, "1")))+pair)
}

// TestStay: P16.1: data types, names, types, leading lambdas and the order stay; definitions are looked at each by itself, in whatever order they stand.
func TestStay(t *testing.T) {
	const datas = `(data M.T (a b) ("M.A" a (M.T b a)) ("M.B" (a -> b))) (data M.E () ("M.R") ("M.I" Int M.E))`
	use := fn("use", "n Int", "Int", add(double, "1"))
	turned := fn("use", "n Int", "Int", hard("a", "Int", double, add(`"a"`, "1")))
	other := fn("other", "n Int, e M.E", "M.E", app(`(con "M.I")`, add(double, "1"), `"e"`))
	eat := fn("eat", "e M.E", "Int", `(case "e" (con "M.R" () 0) (con "M.I" ("x" "r") `+add(`"x"`, global("eat", `"r"`))+`))`)
	eatTurned := fn("eat", "e M.E", "Int", `(case "e" (con "M.R" () 0) (con "M.I" ("x" "r") `+hard("a", "Int", global("eat", `"r"`), add(`"x"`, `"a"`))+`))`)
	call := fn("call", "n Int", "Int", global("eat", global("other", `"n"`, `(con "M.R")`)))
	callTurned := fn("call", "n Int", "Int", hard("a", "M.E", global("other", `"n"`, `(con "M.R")`), global("eat", `"a"`)))
	checkSplit(t, datas+use+other+eat+call+library, datas+turned+other+eatTurned+callTurned+library)
	checkSplit(t, datas+library+call+eat+other+use, datas+library+callTurned+eatTurned+other+turned)
	p := read(t, datas+use+other+eat+call+library)
	q := split(t, p)
	if fmt.Sprint(p.Datas) != fmt.Sprint(q.Datas) || len(p.Defs) != len(q.Defs) {
		t.Error(q.Datas, len(q.Defs))
	}
	for i, d := range p.Defs {
		if e := q.Defs[i]; e.Name != d.Name || len(e.Params) > 0 || fmt.Sprint(e.Type) != fmt.Sprint(d.Type) {
			t.Errorf("%s has become %s of type %v", d.Name, e.Name, e.Type)
		}
	}
}

// TestNothing: P16.5: where there is no needed argument all stays, names of locals too.
func TestNothing(t *testing.T) {
	for _, text := range []string{
		"", `(data M.T (a) ("M.A" a (M.T a)) ("M.B"))`, fn("a", "", "Int", "1"), fn("a", "", "Int", `(global "a")`), fn("a", "", "(Int -> Int)", `(global "a")`), fn("a", "x Int, y Int", "Int", `"x"`),
		`(data M.T (a) ("M.A" a (M.T a)) ("M.B"))` + fn("m", "", "Int", `(case (con "M.B" Int) (else 2))`) + fn("c", "", "(Int -> ((M.T Int) -> (M.T Int)))", `(con "M.A" Int)`),
		f("Int", `(case "l" (con "Nil" () (seq "p" (op / "n" 0))) (con "Cons" ("x" "t") (let (("y" Int "z") ("z" Int (app "h" "y"))) (op + "x" (hard "w" Int "z" (op - "w" 1))))))`),
		fn("w1", "w2 Int", "Int", `(let (("w3" Int "w2")) (hard "w1" Int "w3" "w1"))`),
	} {
		checkSplit(t, text, text)
	}
}
