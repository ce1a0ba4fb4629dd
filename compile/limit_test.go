package compile_test

import (
	"fmt"
	"slices"
	"strings"
	"testing"

	"sloth/api"
	"sloth/compile"
	"sloth/core"
)

// checkLimit: of two programs the first is at a limit, the second one past it.
func checkLimit(t *testing.T, what, at, past string) {
	t.Helper()
	compiled(t, read(t, at))
	checkError(t, what+", one more", read(t, past), api.ErrBig)
}

// params writes so many parameters of numbers, called x0 and so on.
func params(n int) string { return strings.TrimSuffix(numbers(n, "x# Int,"), ",") }

func vars(n int) []string { return each(n, `"x#"`) }

// TestMaxArity: P18.1: MaxArity arguments, and one more: of a definition, of a suspended expression.
func TestMaxArity(t *testing.T) {
	const most = api.MaxArity
	for _, body := range []func(n int) string{
		func(n int) string { return "1" }, func(n int) string { return `"x0"` }, func(n int) string { return vars(n)[n-1] }, func(n int) string { return sum(vars(n)...) },
	} {
		at, past := fn("f", params(most), "Int", body(most)), fn("f", params(most+1), "Int", body(most+1))
		checkLimit(t, "a definition's "+body(most), at, past)
		checkLimit(t, "a definition's, behind others, "+body(most), fn("e", "", "Int", "1")+at, fn("e", "", "Int", "1")+past)
	}
	if g := named(t, compiled(t, read(t, fn("f", params(most), "Int", "1"))), "f"); g.Arity != most {
		t.Error(g.Arity)
	}
	const eight = `(data M.C () ("M.C" Int Int Int Int Int Int Int Int))`
	// so many of 20 parameters' and eight fields' names
	of := func(n int) []string { return append(vars(20), each(8, `"y#"`)...)[28-n:] }
	in := func(body string) string {
		return eight + fn("f", params(20)+", c M.C", list, `(case "c" (con "M.C" (`+strings.Join(each(8, `"y#"`), " ")+") "+body+"))") + fn("g", "x Int", "Int", `"x"`)
	}
	call := func(l ...string) string { // all that stands in it, as one number
		e := "1"
		for _, x := range l {
			e = seq(x, e)
		}
		return e
	}
	for what, body := range map[string]func(l []string) string{
		"an operator's": func(l []string) string { return cons(sum(l...), none) },
		"a seq's":       func(l []string) string { return cons(call(l...), none) },
		"a case's": func(l []string) string {
			return cons(`(case `+l[0]+` (int 1 `+sum(l[1:5]...)+`) (else `+sum(l[5:]...)+`))`, none)
		},
		"a hard's":           func(l []string) string { return cons(`(hard "v" Int `+l[0]+" "+sum(append(l[1:], `"v"`)...)+")", none) },
		"a let's Value":      func(l []string) string { return `(let (("v" Int ` + sum(l...) + `)) ` + cons(`"v"`, none) + ")" },
		"a let's, within it": func(l []string) string { return cons(seq("1", `(let (("v" Int `+sum(l...)+`)) 2)`), none) },
		"within another one": func(l []string) string { return cons(seq("1", global("g", sum(l...))), none) },
		"one that binds others": func(l []string) string {
			return cons(`(let (`+numbers(30, `("z#" Int 1)`)+`) 1)`, cons(seq(`(let (`+numbers(30, `("w#" Int 1)`)+`) `+sum(each(30, `"w#"`)...)+`)`, sum(l...)), none))
		},
		"those of what it binds": func(l []string) string {
			return cons(`(hard "v" Int 1 `+sum(append(slices.Clone(l), `"v"`, `"v"`)...)+")", none)
		},
	} {
		checkLimit(t, what, in(body(of(most))), in(body(of(most+1))))
		if g := compiled(t, read(t, in(body(of(most))))); !slices.ContainsFunc(g.Globals, func(g api.Global) bool { return strings.HasPrefix(g.Name, "f!") && g.Arity == most }) {
			t.Error("the test is wrong:", what, shown(g))
		}
	}
	// what is worked out where it stands may speak of any number
	compiled(t, read(t, in(seq(sum(of(28)...), none))))
	compiled(t, read(t, fn("f", "", list, `(let (`+numbers(100, `("z#" Int 1)`)+`) `+seq(sum(each(100, `"z#"`)...), cons(`"z1"`, none))+`)`)))
	// an inner one that has too many, where the outer one has none
	inner := func(n int) string {
		return fn("f", "", list, cons(seq("1", `(let (`+numbers(n, `("z#" Int 1)`)+`) `+global("g", sum(each(n, `"z#"`)...))+")"), none)) + fn("g", "x Int", "Int", `"x"`)
	}
	checkLimit(t, "an inner one", inner(most), inner(most+1))
	checkError(t, "very many", read(t, inner(5000)), api.ErrBig)
}

// TestMaxCode: P18.1: MaxCode instructions of a global, and one more.
func TestMaxCode(t *testing.T) {
	const most = api.MaxCode
	// a sum of n numbers takes 2 n - 1; where one of them is c, one more
	body := func(code int) string {
		l := each((code+1)/2, "#")
		if code%2 == 0 {
			l = each(code/2, "#")
			l[7] = `(global "c")`
		}
		return sum(l...)
	}
	c := fn("c", "", "Int", "1")
	for what, x := range map[string]struct {
		text func(body string) string
		more int // instructions besides
	}{
		"a definition":           {func(e string) string { return c + fn("f", "", "Int", e) }, 2},
		"one with a parameter":   {func(e string) string { return c + fn("f", "x Int", "Int", e) }, 3},
		"a suspended expression": {func(e string) string { return c + fn("f", "", list, cons(e, none)) }, 2},
		"within one": {func(e string) string {
			return c + fn("f", "", list, cons(seq("1", global("g", e)), none)) + fn("g", "x Int", "Int", "1")
		}, 2},
		"a case that ends with":        {func(e string) string { return c + fn("f", "", "Int", `(case 1 (int 1 2) (else `+e+`))`) }, 9},
		"a case that fails at the end": {func(e string) string { return c + fn("f", "", "Int", `(case 1 (int 1 `+e+`))`) }, 6},
		"a let's body":                 {func(e string) string { return c + fn("f", "", "Int", `(let (("v" Int 1)) `+e+`)`) }, 6},
	} {
		for _, n := range []int{most, most - 1} {
			code := 0
			for _, g := range compiled(t, read(t, x.text(body(n-x.more)))).Globals {
				code = max(code, len(g.Code))
			}
			if code != n {
				t.Errorf("the test is wrong: %s: %d", what, code)
			}
		}
		checkError(t, what, read(t, x.text(body(most+1-x.more))), api.ErrBig)
		checkError(t, what+", many more", read(t, x.text(body(most+5000))), api.ErrBig)
	}
}

// kinds has constructors of 0 to 8 fields.
func kinds() string {
	s := "(data M.D () (\"M.D\"" + strings.Repeat(" M.D", 8) + ")) (data M.K (a)"
	for n := range 9 {
		s += fmt.Sprintf(` ("M.K%d"%s)`, n, strings.Repeat(" a", n))
	}
	return s + ")"
}

// kind writes an application of the constructor of so many fields.
func kind(n int, typ, arg string) string {
	return app(fmt.Sprintf(`(con "M.K%d" %s)`, n, typ), each(n, arg)...)
}

// within writes an expression in so many cases, of which each leaves eight fields on the stack: z1 to z8, and so on.
func within(n int, e string) string {
	var ahead strings.Builder
	for i := range n {
		fmt.Fprintf(&ahead, `(case "z%d" (con "M.D" (`, max(0, 8*i-7))
		for j := range 8 {
			fmt.Fprintf(&ahead, ` "z%d"`, 8*i+j+1)
		}
		ahead.WriteString(") ")
	}
	return ahead.String() + e + strings.Repeat("))", n)
}

// TestMaxDepth: P18.1: a depth of MaxCode behind each instruction that makes it greater, and one more; in a definition and in a suspended expression.
func TestMaxDepth(t *testing.T) {
	const levels = 999 // the depth is 7994 then
	others := kinds() + fn("c", "", "Int", "1") + fn("k", "", "(M.K Int)", `(con "M.K0" Int)`)
	fields := func(n int) string {
		return fmt.Sprintf(`(case (global "k") (con "M.K%d" (%s) (fail 1 Int)))`, n, strings.Join(each(n, `"v#"`), " "))
	}
	lets := func(n int, body string) string { return "(let (" + numbers(n, `("v#" Int 1)`) + ") " + body + ")" }
	left := func(n int) string { return nested(n, "(op + ", "0", " 1)") }
	for what, x := range map[string]struct{ typ, at, past string }{
		"OpInt":                {"(M.K Int)", kind(6, "Int", "#"), kind(7, "Int", "#")},
		"OpGlobal":             {"(M.K Int)", kind(6, "Int", `(global "c")`), kind(7, "Int", `(global "c")`)},
		"OpGlobal, suspended":  {"(M.K Int)", kind(6, "Int", "(fail 1 Int)"), kind(7, "Int", "(fail 1 Int)")},
		"OpPush":               {"(M.K M.D)", kind(6, "M.D", `"z#"`), kind(7, "M.D", `"z#"`)},
		"OpPush, suspended":    {"(M.K M.D)", kind(5, "M.D", seq(`"z#"`, `"z0"`)), kind(6, "M.D", seq(`"z#"`, `"z1"`))},
		"OpPack of no fields":  {"(M.K Unit)", kind(6, "Unit", `(con "Unit")`), kind(7, "Unit", `(con "Unit")`)},
		"OpAlloc, and a Value": {"Int", lets(5, "1"), lets(6, "1")},
		"OpAlloc":              {"Int", lets(1, "1"), lets(7, "(fail 1 Int)")},
		"OpSplit":              {"Int", fields(6), fields(7)},
		"operators":            {"Int", left(5), left(6)},
		"what is worked first": {"Int", `(hard "v" Int ` + left(5) + " 1)", `(hard "v" Int ` + left(6) + " 1)"},
		"what nobody looks at": {"Int", seq(left(5), "1"), seq(left(6), "1")},
		"what is looked at":    {"Int", `(case ` + left(5) + ` (else 1))`, `(case ` + left(6) + ` (else 1))`},
		"in an alternative":    {"Int", `(case 1 (int 1 ` + left(5) + `))`, `(case 1 (int 1 ` + left(6) + `))`},
		"in a later one":       {"Int", `(case 1 (int 1 2) (else ` + left(5) + `))`, `(case 1 (int 1 2) (else ` + left(6) + `))`},
	} {
		f := func(e string) string { return others + fn("f", "z0 M.D", x.typ, within(levels, e)) }
		checkLimit(t, what, f(x.at), f(x.past))
		f = func(e string) string {
			return others + fn("f", "z0 M.D", "(List "+x.typ+")", app(`(con "Cons" `+x.typ+")", within(levels, e), `(con "Nil" `+x.typ+")"))
		}
		checkLimit(t, what+", in a suspended expression", f(x.at), f(x.past))
	}
	// each instruction of a right table is looked at: the deepest is at the very limit
	x := compiled(t, read(t, others+fn("f", "z0 M.D", "Int", within(levels, left(5)))))
	depth, deepest := 2, 0
	for _, y := range named(t, x, "f").Code[:4*levels] { // each case: push, eval, testcon, split
		switch y.Op {
		case api.OpPush:
			depth++
		case api.OpSplit:
			depth += 7
		}
		deepest = max(deepest, depth)
	}
	if depth != 7994 || deepest != 7994 {
		t.Error("the test is wrong:", depth, deepest)
	}
}

// long is a name of so many bytes.
func long(n int) string { return strings.Repeat("n", n) }

// TestMaxName: P18.1: names of MaxName bytes, and one more: of suspended expressions, of constructors as functions.
func TestMaxName(t *testing.T) {
	const most = api.MaxName
	one := func(n int) string { return fn(long(n), "", list, cons("(fail 1 Int)", none)) }
	checkLimit(t, "a suspended expression", one(most-2), one(most-1))
	checkError(t, "a suspended expression of a name as long as may be", read(t, one(most)), api.ErrBig)
	ten := func(n int) string {
		return fn(long(n), "", list, nested(10, `(app (app (con "Cons" Int) (fail 1 Int)) `, none, ")"))
	}
	checkLimit(t, "ten suspended expressions", ten(most-3), ten(most-2))
	taken := func(n int) string { return one(n) + numbers(9, fn(long(n)+"!@", "", "Int", "1")) }
	checkLimit(t, "names passed over", taken(most-3), taken(most-2))
	compiled(t, read(t, fn(long(most), "", "Int", "1"))) // where nothing is suspended, nothing is too long
	// what matters is what is called so, not what is met in it
	compiled(t, read(t, fn("f", "x Int", list, cons(`(seq "x" (global "`+long(most)+`"))`, none))+fn(long(most), "", "Int", "1")))
	compiled(t, read(t, strings.ReplaceAll(fn("f", "x Int", list, cons(seq(`"x"`, `"x"`), none)), `"x"`, `"`+long(most)+`"`)))

	con := func(n int, more ...string) string {
		s := `(data M.T () ("` + long(n) + `" Int))` + fn("f", "", "Int", seq(`(con "`+long(n)+`")`, "1"))
		for _, name := range more {
			s += fn(name, "", "Int", "1")
		}
		return s
	}
	compiled(t, read(t, con(most)))
	checkLimit(t, "a constructor that is called as a definition", con(most-1, long(most-1)), con(most, long(most)))
	checkLimit(t, "a constructor that is called as two", con(most-2, long(most-2), long(most-2)+"'"), con(most-1, long(most-1), long(most-1)+"'"))
	two := func(n int) string {
		return `(data M.T () ("` + long(n) + `" Int) ("` + long(n) + `'" Int))` + fn("f", "", "Int", seq(`(con "`+long(n)+`")`, seq(`(con "`+long(n)+`'")`, "1"))) + fn(long(n), "", "Int", "1")
	}
	checkLimit(t, "a constructor that is called as another one is as a function", two(most-2), two(most-1))
	// as an instruction's constructor alone, it may have the name of a definition
	compiled(t, read(t, `(data M.T () ("`+long(most)+`" Int))`+fn("f", "", "M.T", `(app (con "`+long(most)+`") 1)`)+fn(long(most), "", "Int", "1")))
}

// manyCons writes data types with so many constructors of so many numbers, called c0 and so on.
func manyCons(n, fields int) string {
	var b strings.Builder
	for i := range n {
		if i%24 == 0 {
			fmt.Fprintf(&b, "(data D%d ()", i)
		}
		fmt.Fprintf(&b, ` ("c%d"%s)`, i, strings.Repeat(" Int", fields))
		if i%24 == 23 || i == n-1 {
			b.WriteString(")")
		}
	}
	return b.String()
}

// chain writes a body in which so many texts are worked out, one behind the other.
func chain(n int, text, last string) string { return nested(n, "(seq "+text+" ", last, ")") }

// TestMaxGlobals: P18.1: MaxGlobals globals, of each kind, and one more.
func TestMaxGlobals(t *testing.T) {
	const most = api.MaxGlobals
	g := fn("g", "x Int", "Int", `"x"`)
	stuck := func(name string, n int) string { // and n that are suspended
		return fn(name, "", list, nested(n, `(app (app (con "Cons" Int) (fail 1 Int)) `, none, ")"))
	}
	for what, text := range map[string]func(n int) string{
		"definitions":    func(n int) string { return numbers(n, fn("d#", "", "Int", "1")) },
		"suspended ones": func(n int) string { return stuck("f", n-1) },
		"suspended within another": func(n int) string {
			return g + fn("e", "", "Int", nested(1000, `(app (global "g") (op + 1 `, "1", "))")) + fn("f", "", "Int", nested(n-1003, `(app (global "g") (op + 1 `, "1", "))"))
		},
		"of several kinds": func(n int) string {
			return manyCons(n-1500, 1) + fn("f", "", "Int", chain(n-1500, `(con "c#")`, "1")) + numbers(500, fn("g#", "", "Int", "1")) + stuck("h", 998)
		},
		"one that is suspended":     func(n int) string { return stuck("a", 1) + numbers(n-2, fn("d#", "", "Int", "1")) },
		"one suspended in the last": func(n int) string { return numbers(n-2, fn("d#", "", "Int", "1")) + stuck("z", 1) },
		"a constructor": func(n int) string {
			return numbers(n-2, fn("d#", "", "Int", "1")) + fn("z", "", "("+list+" -> "+list+")", app(`(con "Cons" Int)`, "1"))
		},
	} {
		if n := len(compiled(t, read(t, text(most))).Globals); n != most {
			t.Errorf("the test is wrong: %s: %d", what, n)
			continue
		}
		checkError(t, what+", one more", read(t, text(most+1)), api.ErrBig)
		checkError(t, what+", ten more", read(t, text(most+10)), api.ErrBig)
	}
}

// TestMaxShapes: P18.1: MaxGlobals shapes, by each instruction that names one, and one more; those in no instruction are none.
func TestMaxShapes(t *testing.T) {
	const most = api.MaxGlobals - 7
	tests := func(n int) string {
		s := manyCons(n, 0)
		for i := 0; i < n; i += 24 {
			alts := ""
			for j := i; j < min(i+24, n); j++ {
				alts += fmt.Sprintf(` (con "c%d" () 1)`, j)
			}
			d := fmt.Sprint("D", i)
			s += fn("is"+d, d+" "+d, "Int", `(case "`+d+`"`+alts+")")
		}
		return s
	}
	for what, text := range map[string]func(n int) string{
		"packed":    func(n int) string { return manyCons(n, 0) + fn("f", "", "Int", chain(n, `(con "c#")`, "1")) },
		"with one":  func(n int) string { return manyCons(n, 1) + fn("f", "", "Int", chain(n, `(app (con "c#") 1)`, "1")) },
		"functions": func(n int) string { return manyCons(n, 1) + fn("f", "", "Int", chain(n, `(con "c#")`, "1")) },
		"tested":    tests,
	} {
		if n := len(compiled(t, read(t, text(most))).Shapes); n != api.MaxGlobals {
			t.Errorf("the test is wrong: %s: %d", what, n)
			continue
		}
		checkError(t, what+", one more", read(t, text(most+1)), api.ErrBig)
		idle := strings.NewReplacer("(data D", "(data E", `"c`, `"e`).Replace(manyCons(3000, 2))
		compiled(t, read(t, idle+text(most)))
	}
}

func instrs(x api.Table) int {
	n := 0
	for _, g := range x.Globals {
		n += len(g.Code)
	}
	return n
}

// TestMaxInstrs: P18.1: MaxInstrs instructions together, and one more.
func TestMaxInstrs(t *testing.T) {
	const most = api.MaxInstrs
	// suspended expressions of 24 free names take the most instructions for their size
	item := sum(append(vars(24), vars(10)...)...)
	base := `(data M.L () ("M.E") ("M.C"` + strings.Repeat(" Int", 7) + " M.L))"
	for i := range 23 {
		body := `(con "M.E")`
		for range 8 {
			body = app(`(con "M.C")`, append(slices.Repeat([]string{item}, 7), body)...)
		}
		base += fn(fmt.Sprint("f", i), params(24), "M.L", body)
	}
	room := most - instrs(compiled(t, read(t, base)))
	if room < 100 || room > api.MaxCode {
		t.Fatal("the test is wrong:", room)
	}
	padded := func(n int) string { // n more instructions: of a sum of k numbers 2 k + 1, or with a parameter 2 k + 2
		if n%2 == 1 {
			return base + fn("p", "", "Int", sum(each((n-1)/2, "#")...))
		}
		return base + fn("p", "x Int", "Int", sum(each((n-2)/2, "#")...))
	}
	for less := range 3 {
		p := read(t, padded(room-less))
		if n := instrs(compiled(t, p)); n != most-less {
			t.Error("the test is wrong:", n, core.Size(p))
		}
	}
	for more := 1; more <= 3; more++ {
		checkError(t, fmt.Sprint(more, " more"), read(t, padded(room+more)), api.ErrBig)
	}
}

// TestFirst: P18.1: what core.Check says is told ahead of ErrCompileForm, and that ahead of what is above a limit, wherever it stands.
func TestFirst(t *testing.T) {
	wrong := `(def "w" () Int (con "True"))`
	poly := `(def "p" (a) (a -> a) (lam "x" a "x"))`
	inner := fn("i", "", "Int", `(app (lam "x" Int "x") 1)`)
	datas := kinds()
	for _, big := range []string{
		fn("f", params(25), "Int", "1"), fn("f", "", "Int", sum(each(5000, "#")...)), numbers(2001, fn("d#", "", "Int", "1")),
		fn(long(4096), "", list, cons("(fail 1 Int)", none)), fn("f", "z0 M.D", "(M.K Int)", within(999, kind(7, "Int", "#"))),
	} {
		checkError(t, "above a limit", read(t, datas+big), api.ErrBig)
		for _, form := range []string{poly, inner} {
			checkError(t, "not of its form ahead", raw(t, datas+form+big), api.ErrCompileForm)
			checkError(t, "not of its form behind", raw(t, datas+big+form), api.ErrCompileForm)
			checkError(t, "not right behind", raw(t, datas+big+form+wrong), api.ErrCoreType)
			checkError(t, "not right ahead", raw(t, datas+wrong+form+big), api.ErrCoreType)
		}
		checkError(t, "not right", raw(t, datas+big+wrong), api.ErrCoreType)
	}
}

// quoted has definitions and constructors as functions that are called alike but for so many ' each.
func quoted(n int) string {
	datas, defs, uses := "(data Q ()", "", "1"
	for i := range n {
		name := "A" + strings.Repeat("'", i)
		if i > 0 && i%24 == 0 {
			datas += fmt.Sprintf(") (data Q%d ()", i)
		}
		datas += ` ("` + name + `" Int)`
		defs += fn(name, "", "Int", "1")
		uses = seq(`(con "`+name+`")`, uses)
	}
	return datas + ")" + defs + fn("f", "", "Int", uses)
}

// TestSoon: W1: programs as great as may be take no long time, whatever would become of them.
func TestSoon(t *testing.T) {
	t.Parallel()
	g := fn("g", "x Int", "Int", `"x"`)
	great := sum(each(20, global("g", sum(slices.Repeat([]string{`"x"`}, 1900)...)))...)
	box := `(data M.L () ("M.E") ("M.C"` + strings.Repeat(" Int", 7) + " M.L))"
	boxes := nested(1000, "(app "+app(`(con "M.C")`, slices.Repeat([]string{"(fail 1 Int)"}, 7)...)+" ", `(con "M.E")`, ")")
	for _, x := range []struct {
		what, text string
		want       api.Errno
	}{
		{"suspended ones within one another around a great one", g + fn("f", "x Int", "Int", nested(1900, `(op + 1 (app (global "g") `, great, "))")), api.OK},
		{"many free names in suspended ones within one another", g + fn("f", "", "Int", "(let ("+numbers(15000, `("z#" Int 1)`)+") "+nested(1900, `(op + 1 (app (global "g") `, sum(each(15000, `"z#"`)...), "))")+")"), api.ErrBig},
		{"very many suspended ones", box + fn("f", "", "M.L", boxes), api.ErrBig},
		{"names of constructors that definitions have", quoted(999), api.OK},
		{"very many such names", quoted(1500), api.ErrBig},
		{"very many constructors as functions", manyCons(10000, 1) + fn("f", "", "Int", sum(each(10000, seq(`(con "c#")`, "1"))...)), api.ErrBig},
		{"very many numbers that are taken", numbers(1990, fn("f!@", "", "Int", "1")) + fn("f", "", list, nested(9, `(app (app (con "Cons" Int) (fail 1 Int)) `, none, ")")), api.OK},
		{"very many definitions", numbers(30000, fn("d#", "", "Int", "1")), api.ErrBig},
		{"a very great sum", fn("f", "", "Int", sum(each(49000, "#")...)), api.ErrBig},
		{"very many names of a let", fn("f", "", "Int", "(let ("+numbers(30000, `("z#" Int 1)`)+") 1)"), api.ErrBig},
		{"very deep", fn("f", "", "Int", nested(3990, "(op + 1 ", "1", ")")), api.OK},
		{"very deep heads", fn("f", "h "+strings.Repeat("(Int -> ", 200)+"Int"+strings.Repeat(")", 200), "Int", app(`"h"`, each(200, "#")...)), api.OK},
	} {
		p := read(t, x.text)
		soon(t, x.what, func() {
			if _, e := compile.Compile(p); e != x.want {
				t.Error(x.what, e, core.Size(p))
			}
		})
	}
}
