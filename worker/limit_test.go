package worker_test

import (
	"fmt"
	"maps"
	"slices"
	"strings"
	"testing"

	"sloth/api"
	"sloth/core"
	"sloth/worker"
)

// padded is a program that has so many nodes more, in data types.
func padded(t *testing.T, p api.Program, nodes int) api.Program {
	t.Helper()
	if nodes < 2 {
		t.Fatal("the test is wrong: padded by", nodes)
	}
	q := api.Program{Datas: slices.Clone(p.Datas), Defs: p.Defs}
	for nodes > 0 {
		n := min(nodes, 400)
		if nodes-n == 1 {
			n--
		}
		name := fmt.Sprint("Pad", nodes)
		d := api.Data{Name: name, Cons: []api.Con{{Name: name}}}
		if n > 2 {
			d.Cons[0].Fields = append(d.Cons[0].Fields, typ(lists(n-2)))
		}
		q.Datas = append(q.Datas, d)
		nodes -= n
	}
	return q
}

// TestMaxCore: the answer has MaxCore nodes, or more: by one needed argument, by several, by many, by the types of their parameters, by calls within.
func TestMaxCore(t *testing.T) {
	great := lists(490)
	eat := fn("eat", "l "+great, "Int", `(case "l" (con "Nil" () 1) (else 2))`)
	for what, x := range map[string]struct {
		text string
		more int // how many nodes the needed arguments bring
	}{
		"one":             {f("Int", global("id", double)), 4},
		"two":             {f("Int", add(double, double)), 8},
		"a list's":        {f("Int", global("sum", fail(list))), 5},
		"a pair's":        {f("Int", global("fst", fail("(Pair Int Int)"))), 6},
		"many":            {f("Int", sum(each(100, add(double, "(op - \"n\" #)"))...)), 800},
		"within":          {f("Int", nested(50, `(app (global "id") `, double, ")")), 200},
		"a great type":    {f("Int", global("eat", fail(great))) + eat, 493},
		"many great ones": {f("Int", sum(each(20, global("eat", fail(great)))...)) + eat, 20 * 493},
	} {
		p := read(t, x.text)
		q := split(t, p)
		if core.Size(q) != core.Size(p)+x.more {
			t.Errorf("%s: %d nodes ahead, %d behind, want %d more", what, core.Size(p), core.Size(q), x.more)
			continue
		}
		for above := -2; above <= 3; above++ {
			want := api.OK
			if above > 0 {
				want = api.ErrBig
			}
			checkCode(t, fmt.Sprint(what, ", ", above, " above"), padded(t, p, api.MaxCore-core.Size(q)+above), want)
		}
		checkCode(t, what+", as great as may be", padded(t, p, api.MaxCore-core.Size(p)), api.ErrBig)
	}
	// as great as may be, and nothing to do; greater than may be, which core.Check says
	p := read(t, f("Int", global("g", double)))
	p = padded(t, p, api.MaxCore-core.Size(p))
	if core.Size(p) != api.MaxCore || !alike(split(t, p), p) {
		t.Error(core.Size(p), "nodes, of which all stay")
	}
	checkCode(t, "too great", padded(t, p, 2), api.ErrBig)
}

// ten needs all of its ten arguments.
var ten = fn("ten", strings.TrimSuffix(numbers(10, "x# Int,"), ","), "Int", sum(each(10, `"x#"`)...))

func withLast(n int, inner string) string {
	return nested(n, "(app "+global("ten", each(9, `(op + "n" #)`)...)+" ", inner, ")")
}

func withFirst(n int, inner string) string {
	return nested(n, strings.Repeat("(app ", 10)+`(global "ten") `, inner, ")"+strings.Repeat(" (op + 1 1))", 9))
}

// TestMaxDeep: an expression of the answer is MaxDeep deep, or deeper.
func TestMaxDeep(t *testing.T) {
	const most = api.MaxDeep
	call := add(double, double)
	for what, text := range map[string]func(n int) string{
		"a call at the bottom":    func(n int) string { return f("Int", nested(n, "(seq 1 ", call, ")")) },
		"a call of ten":           func(n int) string { return ten + f("Int", nested(n, "(op + 1 ", withLast(1, double), ")")) },
		"calls of ten":            func(n int) string { return ten + f("Int", nested(n, "(op + 1 ", withLast(300, double), ")")) },
		"in a head":               func(n int) string { return f("Int", nested(n, "(seq 1 ", app("(case "+call+` (else "h"))`, "1"), ")")) },
		"what stands in the last": func(n int) string { return f("Int", add(double, nested(n, "(seq 1 ", "1", ")"))) },
		"what is built": func(n int) string {
			return f("Int", add(double, global("k", double, nested(n, `(app (global "g") `, "1", ")"))))
		},
		"in an alternative":        func(n int) string { return f("Int", nested(n, `(case "n" (int 1 2) (else `, call, "))")) },
		"in a value that is there": func(n int) string { return f("Int", nested(n, `(hard "v#" Int `, call, ` 1)`)) },
		"in a let's body":          func(n int) string { return f("Int", nested(n, `(let (("v#" Int 1)) `, call, `)`)) },
		"in a let's value":         func(n int) string { return f("Int", nested(n, `(let (("v#" Int `, seq("1", call), `)) 1)`)) },
		"another definition":       func(n int) string { return f("Int", "1") + fn("z", "n Int", "Int", nested(n, "(seq 1 ", call, ")")) },
	} {
		n := most - deepest(split(t, read(t, text(100)))) + 100
		for less := range 2 {
			p := read(t, text(n-less))
			q := split(t, p)
			if deepest(q) != most-less || kinds(p)[api.ExprHard] == kinds(q)[api.ExprHard] {
				t.Errorf("%s: %d levels, want %d", what, deepest(q), most-less)
			}
		}
		checkCode(t, what, read(t, text(n+1)), api.ErrNest)
	}
	checkCode(t, "very deep", read(t, ten+f("Int", withLast(1000, double))), api.ErrNest)
}

// TestDepth: calls within the last of ten arguments become ten times as deep, those within the first a tenth.
func TestDepth(t *testing.T) {
	for n := 1; n < 400; n += 57 {
		p, q := read(t, ten+f("Int", withLast(n, double))), read(t, ten+f("Int", withFirst(n, double)))
		got := [4]int{deepest(p), deepest(split(t, p)), deepest(q), deepest(split(t, q))}
		if want := [4]int{6 + n + 11, 6 + 10*n + 11, 6 + 10*n + 2, 6 + n + 20}; got != want {
			t.Errorf("%d calls: %v levels, want %v", n, got, want)
		}
	}
	// as deep as may be, ahead
	p := read(t, ten+f("Int", nested(2, "(seq 1 ", withFirst(399, double), ")")))
	if q := split(t, p); deepest(p) != api.MaxDeep || deepest(q) != 8+399+20 {
		t.Error(deepest(p), deepest(q))
	}
}

// TestFirst: ErrBig ahead of ErrNest, whichever definition is too great and whichever is too deep; and what bars p itself ahead of both.
func TestFirst(t *testing.T) {
	deep := fn("deep", "n Int", "Int", nested(api.MaxDeep-5, "(seq 1 ", add(double, double), ")"))
	p := read(t, deep+library)
	checkCode(t, "too deep", p, api.ErrNest)
	room := api.MaxCore - core.Size(p)
	checkCode(t, "too deep, and just not too great", padded(t, p, room-8), api.ErrNest)
	checkCode(t, "too deep, and too great", padded(t, p, room-7), api.ErrBig)
	wide := fn("wide", "n Int", "Int", sum(each(50, add(double, "1"))...))
	for _, text := range []string{wide + deep + library, deep + library + wide} {
		q := read(t, text)
		checkCode(t, "too deep, and too great in another one", padded(t, q, api.MaxCore-core.Size(q)-100), api.ErrBig)
	}
	for _, text := range []string{`(def "poly" (a) (a -> a) (lam "x" a "x"))`, fn("inner", "", "Int", `(app (lam "x" Int "x") 1)`)} {
		for _, all := range []string{text + deep + library, deep + library + text} {
			q := raw(t, all)
			checkCode(t, "not lifted, and too deep", q, api.ErrWorkerForm)
			checkCode(t, "not lifted, and too great", padded(t, q, api.MaxCore-core.Size(q)), api.ErrWorkerForm)
		}
	}
}

// TestLongNames: names as long as they may be make none that is longer.
func TestLongNames(t *testing.T) {
	name := func(i int) string { return strings.Repeat("w", api.MaxName-1) + fmt.Sprint(i) }
	local := func(i int) string { return `"` + name(i) + `"` }
	one, two := op("+", local(3), "1"), op("*", local(2), "2")
	def := func(body string) string {
		return fn(name(1), name(1)+" Int, "+name(2)+" Int", "Int", `(let ((`+local(3)+` Int `+local(1)+`)) `+body+`)`) + library
	}
	checkSplit(t, def(add(one, two)), def(hard("a", "Int", one, hard("b", "Int", two, add(`"a"`, `"b"`)))))
}

// TestTakenNames: very many names are there: all of one byte, many of two, and all with a number of up to two digits behind one byte.
func TestTakenNames(t *testing.T) {
	taken := map[string]bool{}
	for b := byte(32); b <= 126; b++ {
		a := string(rune(b))
		taken[a] = true
		for _, c := range "abchtvwxyz_$'" {
			taken[a+string(c)] = true
		}
		for i := range 100 {
			taken[a+fmt.Sprint(i)] = true
		}
	}
	binds := ""
	for _, name := range slices.Sorted(maps.Keys(taken)) {
		binds += `("` + strings.NewReplacer(`\`, `\\`, `"`, `\"`).Replace(name) + `" Int 1)`
	}
	s := newSeen()
	s.checkPlain(t, read(t, fn("f", "", "Int", "(let ("+binds+") "+sum(each(200, add(`(op + "w1" #)`, `(op - "x" #)`))...)+")")+library))
	if s.needed != 400 {
		t.Error(s.needed)
	}
	// what other definitions, and constructors, are called does not matter
	both := func(first, second string) string {
		return `(data M.T () ("w1") ("w3"))` + fn("w1", "w2 Int", "Int", first) + fn("w3", "w1 Int", "Int", second)
	}
	one, two := op("+", `"w2"`, "1"), op("+", `"w1"`, "1")
	checkSplit(t, both(global("w3", one), global("w1", two)), both(hard("a", "Int", one, global("w3", `"a"`)), hard("a", "Int", two, global("w1", `"a"`))))
}

// TestSoon: W1: programs as great as may be take no long time, whatever would become of them.
func TestSoon(t *testing.T) {
	t.Parallel()
	great := lists(490)
	eat := fn("eat", "l "+great, "Int", `(case "l" (con "Nil" () 1) (else 2))`)
	one := fn("one", "", great, fail(great))
	for _, x := range []struct {
		what, text string
		want       api.Errno
	}{
		{"very many needed arguments of a great type", f("Int", sum(each(12000, global("eat", seq("1", global("one"))))...)) + eat + one, api.ErrBig},
		{"very many needed arguments", f("Int", sum(each(12000, global("id", double))...)), api.ErrBig},
		{"as many as there may be", f("Int", sum(each(9900, global("id", double))...)), api.OK},
		{"calls within the last argument of ten", ten + f("Int", withLast(1100, "1")), api.ErrNest},
		{"calls within the first argument of ten", ten + f("Int", withFirst(390, "1")), api.OK},
		{"calls within calls", f("Int", nested(3900, `(app (global "id") `, double, ")")), api.OK},
		{"very many names that are taken", fn("f", "", "Int", "(let ("+numbers(20000, `("w#" Int 1)`)+") "+sum(each(1000, global("id", "(op * 1 2)"))...)+")") + library, api.OK},
		{"very many definitions", numbers(4000, fn("d#", "n Int", "Int", global("id", double))) + library, api.OK},
		{"a very wide call that is not known", fn("f", strings.TrimSuffix(numbers(240, "x# Int,"), ","), "Int", global("f", each(240, `(op + "x#" 1)`)...)), api.OK},
	} {
		p := read(t, x.text)
		soon(t, x.what, func() {
			if q, code := worker.Split(p); code != x.want {
				t.Error(x.what, code, core.Size(p), core.Size(q))
			}
		})
	}
}
