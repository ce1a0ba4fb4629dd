package mono_test

import (
	"fmt"
	"math/rand"
	"slices"
	"strings"
	"testing"

	"sloth/api"
	"sloth/core"
	"sloth/mono"
)

const no = `(def "no" (a) Int 1) (def "no2" (a b) Int 2)` // nothing of the types stands in them

// TestMaxType: an instance's type has MaxType nodes, or more.
func TestMaxType(t *testing.T) {
	for _, x := range []struct {
		by, use string
		nodes   func(n int) int // of the type that is laid, where a has n
	}{
		{`(def "by" (a) Int (global "no" (List a)))`, `(global "by" T)`, func(n int) int { return n + 1 }},
		{`(def "by" (a) Int (global "no" (a -> Int)))`, `(global "by" T)`, func(n int) int { return n + 2 }},
		{`(def "by" (a) Int (global "no" (Pair a a)))`, `(global "by" T)`, func(n int) int { return 2*n + 1 }},
		{`(def "by" (b a) Int (global "no2" b (Triple Bool a (List b))))`, `(global "by" Int T)`, func(n int) int { return n + 4 }},
		{`(def "by" (b a) Int (global "no2" (List (a -> (a -> b))) b))`, `(global "by" Int T)`, func(n int) int { return 2*n + 4 }},
		{`(def "by" (a) Int (global "on" (List a))) (def "on" (a) Int (global "no" (Pair Int a)))`, `(global "by" T)`, func(n int) int { return n + 3 }},
	} {
		n := 1
		for x.nodes(n+1) <= api.MaxType {
			n++
		}
		for more, want := range []api.Errno{api.OK, api.ErrBig} {
			text := no + x.by + def("main", strings.ReplaceAll(x.use, "T", lists(n+more)))
			checkCode(t, fmt.Sprint(x.by, " with ", n+more, " nodes"), read(t, text), "main", want)
		}
	}
	// what has MaxType nodes stays as it is
	checkMade(t, no+`(def "by" (a) Int (global "no" (List a)))`+def("main", `(global "by" `+lists(499)+`)`), "main",
		def("main", `(global "by{`+lists(499)+`}")`)+def("by{"+lists(499)+"}", `(global "no{`+lists(500)+`}")`)+def("no{"+lists(500)+"}", "1"))
	// the chapter's example: the instance of 501 nodes is the first that cannot be laid, ahead of MaxCopies and MaxCore
	nest := func(from int) string {
		return `(def "nest" (a) (a -> Int) (lam "x" a (app (global "nest" (List a)) (con "Nil" a))))` + def("main", `(app (global "nest" `+lists(from)+`) (fail 1 `+lists(from)+`))`)
	}
	for _, from := range []int{1, 100, 498} {
		checkCode(t, fmt.Sprint("nest of ", from), read(t, nest(from)), "main", api.ErrBig)
	}
}

// TestMaxName: an instance's name has MaxName bytes, or more; by the definition's name, or by the types.
func TestMaxName(t *testing.T) {
	for more, want := range []api.Errno{api.OK, api.ErrBig} {
		// what is behind the definition's name, and how often that is long
		for _, list := range [][]string{{"Int"}, {"Int", "(List Bool)"}, {lists(400)}, {"Unit", "(Int -> Int)", lists(200)}} {
			title := "{" + strings.Join(list, ",") + "}"
			name := strings.Repeat("x", api.MaxName-len(title)+more)
			p := read(t, `(def "`+name+`" (`+numbers(len(list), " a#")+`) Int 1)`+def("main", `(global "`+name+`" `+strings.Join(list, " ")+`)`))
			checkCode(t, fmt.Sprint(more, " above, with ", short(title)), p, "main", want)
			if want == api.OK && names(made(t, p, "main")) != "main "+name+title {
				t.Error(title, names(made(t, p, "main")))
			}
		}
		// the entry's own
		for _, params := range []int{1, 2, 500, 818} {
			name := strings.Repeat("x", api.MaxName-len("{")-params*len("Unit,")+more)
			checkCode(t, fmt.Sprint("entry of ", params, " parameters, ", more, " above"), read(t, `(def "`+name+`" (`+numbers(params, " a#")+`) Int 1)`), name, want)
		}
		// by data types' names, though the nodes are few: that of one, those of two, and such as come together
		letters := func(letter string, beside int) string { return strings.Repeat(letter, api.MaxName-beside+more) }
		a := letters("A", len("no{}"))
		checkCode(t, fmt.Sprint("a data type, ", more, " above"), read(t, `(data `+a+` () ("a"))`+no+def("main", `(global "no" `+a+`)`)), "main", want)
		a = letters("A", 2000)
		b := strings.Repeat("B", 2000-len("no2{,}"))
		checkCode(t, fmt.Sprint("two data types, ", more, " above"), read(t, `(data `+a+` () ("a")) (data `+b+` () ("b"))`+no+def("main", `(global "no2" `+a+` `+b+`)`)), "main", want)
		b = strings.Repeat("B", 2000-len("no{( )}"))
		checkCode(t, fmt.Sprint("a data type of another, ", more, " above"), read(t, `(data `+a+` (x) ("a")) (data `+b+` () ("b"))`+no+`(def "by" (y) Int (global "no" (`+a+` y)))`+def("main", `(global "by" `+b+`)`)), "main", want)
		// nothing but the name is too long here: 4 bytes of each node
		text := nested(499, "(L ", "L1", ")")
		name := strings.Repeat("x", api.MaxName-len("{"+text+","+text+"}")+more)
		checkCode(t, fmt.Sprint("two great types, ", more, " above"), read(t, `(data L (a) ("l")) (data L1 () ("l1")) (def "`+name+`" (a b) Int 1)`+def("main", `(global "`+name+`" `+text+` `+text+`)`)), "main", want)
	}
	// a definition without parameters has no more than Check lets it have
	name := strings.Repeat("x", api.MaxName)
	checkMade(t, def(name, "1"), name, def(name, "1"))
	// far above: a text that types.Print would not write; very many types; very many parameters
	data := strings.Repeat("D", api.MaxName)
	checkCode(t, "a very long text", read(t, `(data `+data+` (a) ("c"))`+no+`(def "by" (a) Int (global "no" `+nested(100, "("+data+" ", "a", ")")+`))`+def("main", `(global "by" Int)`)), "main", api.ErrBig)
	checkCode(t, "very many types", read(t, `(def "p" (`+numbers(30000, " a#")+`) Int 1)`+def("main", `(global "p" `+strings.Repeat(" Int", 30000)+`)`)), "main", api.ErrBig)
	p := read(t, def("p", "1"))
	for i := range 200000 {
		p.Defs[0].Params = append(p.Defs[0].Params, fmt.Sprint("a", i))
	}
	checkCode(t, "very many parameters", p, "p", api.ErrBig)
}

// TestLongVariables: how long the names of parameters and locals are does not count.
func TestLongVariables(t *testing.T) {
	name := "a" + strings.Repeat("b", api.MaxName-1)
	pairs := nested(30, "(Pair Unit ", "Unit", ")")
	checkMade(t, `(def "g" (`+name+`) `+name+` (fail 1 `+name+`)) (def "f" (`+name+`) Int (seq (global "g" `+strings.ReplaceAll(pairs, "Unit", name)+`) (let (("`+name+`" `+name+` (fail 2 `+name+`))) 1)))`, "f",
		def("f{Unit}", `(seq (global "g{`+pairs+`}") (let (("`+name+`" Unit (fail 2 Unit))) 1))`)+`(def "g{`+pairs+`}" () `+pairs+` (fail 1 `+pairs+`))`)
}

// spread writes so many types, no two of which are the same.
func spread(n int) []string {
	l := make([]string, n)
	for i := range l {
		text := "Int"
		for j := i; j > 0; j /= 2 {
			text = []string{"(List ", "(Pair Int "}[j%2] + text + ")"
		}
		l[i] = text
	}
	return l
}

// TestMaxCopies: MaxCopies instances, and one more.
func TestMaxCopies(t *testing.T) {
	for more, want := range []api.Errno{api.OK, api.ErrMonoMany, api.ErrMonoMany} {
		n := api.MaxCopies + more
		uses := make([]string, n-1)
		for i, text := range spread(n - 1) {
			uses[i] = `(global "no" ` + text + `)`
		}
		types := read(t, no+def("main", sum(uses...)))
		checkCode(t, fmt.Sprint(n, " instances at types"), types, "main", want)
		checkCode(t, fmt.Sprint(n, " instances at types, each twice"), read(t, no+def("main", sum(append(uses, uses...)...))), "main", want)
		chain := read(t, numbers(n-1, def("d#", `(global "d$")`))+def(fmt.Sprint("d", n-1), `(op + (global "d0") (global "d5"))`))
		checkCode(t, fmt.Sprint(n, " instances in a row"), chain, "d0", want)
		checkCode(t, fmt.Sprint(n, " instances in a row, from the second on"), read(t, numbers(n-1, def("d#", `(global "d$")`))+def(fmt.Sprint("d", n-1), "1")), "d1", []api.Errno{api.OK, api.OK, api.ErrMonoMany}[more])
		if want == api.OK {
			if got := len(made(t, types, "main").Defs); got != n {
				t.Error(got, "instances")
			}
			if got := len(made(t, chain, "d0").Defs); got != n {
				t.Error(got, "instances in a row")
			}
		}
	}
	// more definitions than that do not matter, nor do instances that are in the row
	checkNames(t, numbers(5000, def("d#", `(global "d4999")`)), "d7", "d7 d4999")
	// at types that grow and stay below all other limits
	two := `(def "f" (a) Int (op + (global "f" (List a)) (global "f" (Pair Int a))))`
	checkCode(t, "two more of each", read(t, two), "f", api.ErrMonoMany)
}

// grown are programs whose answer is greater than they are, in several ways: what the definitions "g0" and "g1" speak of.
func grown() map[string]string {
	great := lists(60)
	return map[string]string{
		"Bind":             `(def "g" (a) Int (let (("x" a (fail 1 a)) ("y" (List a) (con "Nil" a))) (hard "z" (a -> a) (lam "u" a "u") 1)))` + def("g0", `(global "g" `+great+`)`) + def("g1", `(global "g" (List Int))`),
		"ExprFail":         `(def "g" (a) a (fail 1 a))` + def("g0", `(seq (global "g" `+great+`) (seq (global "g" (List `+great+`)) 1))`) + def("g1", `(seq (global "g" (List `+great+`)) 1)`),
		"ExprCon":          `(def "g" (a) (List (List a)) (app (app (con "Cons" (List a)) (con "Nil" a)) (con "Nil" (List a))))` + def("g0", `(seq (global "g" `+great+`) (seq (global "g" (List `+great+`)) 1))`) + def("g1", `(seq (global "g" (List `+great+`)) 1)`),
		"several":          `(def "g" (a b) (a -> (b -> a)) (lam "x" a (lam "y" b "x")))` + def("g0", `(seq (global "g" Int Bool) (seq (global "g" Bool Int) (seq (global "g" Unit Unit) 1)))`) + def("g1", `(seq (global "g" Bool Int) (seq (global "g" Bool Bool) 1))`),
		"several, deeper":  `(def "g" (a) Int (seq (global "h" (Pair a a)) (global "h" (List a)))) (def "h" (a) Int (seq (case (fail 1 (Pair a Int)) (con "Pair" ("x" "y") (seq (fail 1 a) "y"))) 1))` + def("g0", sum(`(global "g" Bool)`, `(global "g" Int)`, `(global "g" `+great+`)`)) + def("g1", `(global "g" Int)`),
		"an ExprGlobal's":  `(def "g" (a) Int (seq (global "h" (Pair a a)) (seq (fail 1 (Pair a a)) 1))) (def "h" (a) a (fail 1 a))` + def("g0", `(global "g" `+lists(200)+`)`) + def("g1", "1"),
		"a Type that it's": `(def "g" (a) ((Pair a a) -> ((Pair a a) -> Int)) (lam "x" (Pair a a) (fail 1 ((Pair a a) -> Int))))` + def("g0", `(seq (global "g" (List (List Int))) (seq (global "g" (List (List (List Int)))) 1))`) + def("g1", "1"),
	}
}

// TestMaxCore: the program of the data types and of what is made grows to MaxCore nodes, or above.
func TestMaxCore(t *testing.T) {
	for what, text := range grown() {
		text += def("main", `(op + (global "g0") (global "g1"))`)
		p := read(t, text)
		q := made(t, p, "main")
		if core.Size(q) <= core.Size(p) {
			t.Errorf("the test is wrong: %s: %d nodes ahead, %d behind", what, core.Size(p), core.Size(q))
			continue
		}
		for more := -2; more <= 3; more++ {
			want := api.OK
			if more > 0 {
				want = api.ErrBig
			}
			checkCode(t, fmt.Sprint(what, ", ", more, " above"), padded(t, p, api.MaxCore-core.Size(q)+more), "main", want)
		}
	}
	// by a definition that is made while others still wait: what those would lay is not met
	others := id + def("id{Int}", "1") + numbers(9, def("z#", `(global "z$")`))
	for what, text := range grown() {
		text += others + def("main", `(op + (global "g0") (op + (global "g1") (global "z0")))`)
		p := read(t, text+def("z9", `(op + (app (global "id" Int) 1) (global "id{Int}"))`))
		q := made(t, read(t, text+def("z9", `(op + (app (global "id" Int) 1) (global "z0"))`)), "main") // as great, and may be
		upTo := 1 + slices.IndexFunc(q.Defs, func(d api.Def) bool { return d.Name == "z9" })
		size := core.Size(api.Program{Datas: q.Datas, Defs: q.Defs[:upTo]})
		if core.Size(p) >= size {
			t.Errorf("the test is wrong: %s: %d nodes ahead, %d behind", what, core.Size(p), size)
		}
		for more := -2; more <= 3; more++ {
			want := api.ErrMonoName
			if more > 0 {
				want = api.ErrBig
			}
			checkCode(t, fmt.Sprint(what, ", while others wait, ", more, " above"), padded(t, p, api.MaxCore-size+more), "main", want)
		}
	}
	// where nothing grows, p itself is as great as may be
	p := padded(t, read(t, def("main", "1")), api.MaxCore-3)
	if core.Size(p) != api.MaxCore || !alike(made(t, p, "main"), p) {
		t.Error(core.Size(p), "nodes, of which all stay")
	}
	// one definition alone grows far above: 96000 nodes, most of them parameters, to some 40 millions; those of ExprGlobals do not count
	wide := nested(240, "(Pair a ", "a", ")")
	checkCode(t, "very great", read(t, `(def "g" (a) Int `+sum(times(195, `(seq (fail 1 `+wide+`) 1)`)...)+`)`+def("main", `(global "g" `+lists(500)+`)`)), "main", api.ErrBig)
	checkNames(t, no+`(def "g" (a) Int `+sum(times(190, `(global "no" `+wide+`)`)...)+`)`+def("main", `(global "g" Int)`), "main", "main g{Int} no{"+nested(240, "(Pair Int ", "Int", ")")+"}")
}

// padded is a program that has so many nodes more, in data types: these stay, needed or not.
func padded(t *testing.T, p api.Program, nodes int) api.Program {
	t.Helper()
	if nodes < 2 {
		t.Fatal("the test is wrong: padded by", nodes)
	}
	q := api.Program{Datas: append([]api.Data{}, p.Datas...), Defs: p.Defs}
	for nodes > 0 {
		n := min(nodes, 400)
		if nodes-n == 1 {
			n--
		}
		name := fmt.Sprint("Pad", nodes)
		d := api.Data{Name: name, Cons: []api.Con{{Name: name}}}
		if n > 2 {
			d.Cons[0].Fields = append(d.Cons[0].Fields, typ(lists(n-2)))
		}
		q.Datas = append(q.Datas, d)
		nodes -= n
	}
	return q
}

// TestRightTypes: P12.1: types, and those of expressions, that would have more than MaxType nodes in the answer.
func TestRightTypes(t *testing.T) {
	for _, x := range []struct {
		g     string
		nodes func(n int) int // of the greatest type, where a has n
	}{
		{`(def "g" (a) (a -> Int) (fail 1 (a -> Int)))`, func(n int) int { return n + 2 }},
		{`(def "g" (a) (a -> a) (lam "x" a "x"))`, func(n int) int { return 2*n + 1 }},
		{`(def "g" (a) Int (case (fail 1 (List (List a))) (else 1)))`, func(n int) int { return n + 2 }},
		{`(def "g" (a) Int (let (("x" (a -> a) (fail 1 (a -> a)))) 1))`, func(n int) int { return 2*n + 1 }},
		{`(def "g" (a) Int (let (("x" (Pair Int a) "x")) 1))`, func(n int) int { return n + 2 }},
		{`(def "g" (a) Int (app (lam "x" (Pair Int a) 1) (fail 1 (Pair Int a))))`, func(n int) int { return n + 4 }},
		{`(def "g" (a) Int (case (con "Nil" (Pair a a)) (else 1)))`, func(n int) int { return 2*n + 2 }},
		// those of expressions alone
		{`(def "g" (a) Int (seq (lam "x" a (lam "y" a 1)) 1))`, func(n int) int { return 2*n + 3 }},
		{`(def "g" (a) Int (seq (lam "x" a "x") 1))`, func(n int) int { return 2*n + 1 }},
		{`(def "g" (a) Int (seq (con "Cons" a) 1))`, func(n int) int { return 3*n + 4 }},
		{`(def "g" (a) Int (case (app (app (con "Pair" a a) (fail 1 a)) (fail 1 a)) (else 1)))`, func(n int) int { return 4*n + 3 }},
		{`(def "g" (a) Int (case (fail 1 (M.W a)) (con "M.W" ("x" "y") 1)))`, func(n int) int { return 3*n + 2 }},
		{`(def "g" (a) Int (case (fail 1 (M.W a)) (con "M.V" ("x") 1) (else 2)))`, func(n int) int { return n + 1 }},
	} {
		n := 1
		for x.nodes(n+1) <= api.MaxType {
			n++
		}
		data := `(data M.W (a) ("M.W" a (Triple a a (List a))) ("M.V" Int))`
		text := func(n int, more string) string { // what needs g has no type that is too great
			return data + x.g + `(def "by" (b) Int (seq (global "g" (List b)) ` + more + `))` + def("main", `(global "by" `+lists(n-1)+`)`)
		}
		checkCode(t, fmt.Sprint(x.g, " with ", n, " nodes"), read(t, text(n, "1")), "main", api.OK)
		checkCode(t, fmt.Sprint(x.g, " with ", n+1, " nodes"), read(t, text(n+1, "1")), "main", api.ErrBig)
		// behind all else that is met
		checkCode(t, x.g+" and a name", read(t, text(n+1, `(op + (app (global "id" Int) 1) (global "id{Int}"))`)+id+def("id{Int}", "1")), "main", api.ErrMonoName)
		checkCode(t, x.g+" and too many", read(t, text(n+1, `(global "d0")`)+numbers(1000, def("d#", `(global "d$")`))+def("d1000", "1")), "main", api.ErrMonoMany)
	}
}

// TestFirst: of several errors the first one that is met counts: those of an instance ahead in the row; its Size ahead of what it needs; what stands ahead in it.
func TestFirst(t *testing.T) {
	const one = `(app (global "id" Int) 1)`
	const other = `(global "id{Int}")`
	long := strings.Repeat("x", api.MaxName+1-len("{Int}"))
	all := no + id + def("id{Int}", "1") + `(def "` + long + `" (a) Int 1)` +
		`(def "wide" (a) Int (seq (lam "x" a "x") 1))` + // of more than 249 nodes: only Check says so
		`(def "grow" (a) Int ` + sum(times(300, `(seq (fail 1 a) 1)`)...) + `)` +
		`(def "up" (a) Int (global "no" (List a)))` +
		`(def "growUp" (a) Int (op + ` + sum(times(300, `(seq (fail 1 a) 1)`)...) + ` (op + ` + one + ` ` + other + `)))` +
		def("two", `(op + `+one+` `+other+`)`) + def("later", `(global "two")`) +
		def("many", `(global "d0")`) + numbers(1000, def("d#", `(global "d$")`)) + def("d1000", "1") + numbers(1000, def("e#", "1"))
	full := make([]string, api.MaxCopies-3) // the row has room for two more then
	for i := range full {
		full[i] = fmt.Sprintf(`(global "e%d")`, i)
	}
	name := `(global "` + long + `" Int)`
	grow := `(global "grow" ` + lists(499) + `)`
	growUp := `(global "growUp" ` + lists(499) + `)`
	up := `(global "up" ` + lists(500) + `)`
	wide := `(global "wide" ` + lists(300) + `)`
	for _, x := range []struct {
		uses []string
		want api.Errno
	}{
		{[]string{one, other, name}, api.ErrMonoName},
		{[]string{one, name, other}, api.ErrBig},
		{[]string{name, one, other}, api.ErrBig},
		{[]string{one, other, grow}, api.ErrMonoName},
		{[]string{grow, one, other}, api.ErrMonoName}, // main lays all that it needs ahead of what grow comes to
		{[]string{grow, `(global "two")`}, api.ErrBig},
		{[]string{`(global "two")`, grow}, api.ErrMonoName},
		{[]string{`(global "later")`, grow}, api.ErrBig},
		{[]string{`(global "two")`, up}, api.ErrMonoName},
		{[]string{up, `(global "two")`}, api.ErrBig},
		{[]string{growUp}, api.ErrBig}, // its own Size ahead of what it needs
		{[]string{`(global "growUp" Int)`}, api.ErrMonoName},
		{[]string{wide}, api.ErrBig},
		{[]string{wide, `(global "two")`}, api.ErrMonoName},
		{[]string{wide, `(global "many")`}, api.ErrMonoMany},
		{[]string{`(global "many")`, grow}, api.ErrBig},
		{[]string{`(global "many")`, `(global "later")`}, api.ErrMonoName},
		{slices.Concat(full, []string{one, `(global "no" Bool)`}), api.OK},
		{slices.Concat(full, []string{one, `(global "no" Bool)`, other}), api.ErrMonoName},
		{slices.Concat(full, []string{one, `(global "no" Bool)`, `(global "no" Int)`, other}), api.ErrMonoMany},
		{slices.Concat(full, []string{one, `(global "no" Bool)`, name}), api.ErrBig},
		{slices.Concat(full, []string{one, `(global "no" Bool)`, one, full[0]}), api.OK},
		{slices.Concat(full, []string{one, `(global "up" ` + lists(499) + `)`}), api.ErrMonoMany},
		{slices.Concat(full, []string{one, `(global "up" ` + lists(500) + `)`}), api.ErrBig},
		{slices.Concat(full, []string{one, grow}), api.ErrBig},
	} {
		last := x.uses[max(0, len(x.uses)-4):]
		checkCode(t, short(strings.Join(last, " ")), read(t, all+def("main", sum(x.uses...))), "main", x.want)
	}
	// a name that is another's, of a type that is too great: the type counts
	checkCode(t, "a great type and a name", read(t, no+def("no{"+lists(501)+"}", "1")+`(def "up" (a) Int (global "no" (List a)))`+def("main", `(op + (global "no{`+lists(501)+`}") (global "up" `+lists(500)+`))`)), "main", api.ErrBig)
	checkCode(t, "a type and a name", read(t, no+def("no{"+lists(500)+"}", "1")+`(def "up" (a) Int (global "no" (List a)))`+def("main", `(op + (global "no{`+lists(500)+`}") (global "up" `+lists(499)+`))`)), "main", api.ErrMonoName)
}

// TestFirstAtRandom: the same, of errors in any order and any number, against the second form.
func TestFirstAtRandom(t *testing.T) {
	t.Parallel()
	r := rand.New(rand.NewSource(8))
	long := strings.Repeat("x", api.MaxName+1-len("{Int}"))
	const defs = 1100
	all := no + id + def("id{Int}", "1") + def("id{Bool}", "2") + `(def "` + long + `" (a) Int 1)` + `(def "wide" (a) Int (seq (lam "x" a "x") 1))` +
		`(def "grow" (a) Int ` + sum(times(60, `(seq (fail 1 a) 1)`)...) + `)` + `(def "up" (a) Int (global "no" (List a)))` + `(def "upper" (a) Int (op + (global "up" (List a)) (global "up" (Pair Int a))))`
	met := map[api.Errno]int{}
	for range 100 {
		next := r.Intn(100) // the definition that is spoken of next
		luck := pick(r, 20, 200, 2000, 4000)
		use := func() string {
			if r.Intn(luck) > 5 {
				next = min(next+1, defs-1)
				return fmt.Sprintf(`(global "d%d")`, next)
			}
			return pick(r, `(app (global "id" Int) 1)`, `(seq (global "id" Bool) 1)`, `(global "id{Int}")`, `(global "id{Bool}")`, `(global "`+long+`" Int)`, `(global "wide" `+lists(200+r.Intn(100))+`)`,
				`(global "grow" `+lists(400+r.Intn(101))+`)`, `(global "grow" `+lists(1+r.Intn(400))+`)`, `(global "up" `+lists(480+r.Intn(21))+`)`, `(global "upper" `+lists(490+r.Intn(9))+`)`)
		}
		var b strings.Builder
		main := []string{use()}
		for range pick(r, 3, 30, 300, 850, 980) {
			main = append(main, use())
		}
		for i := range defs {
			body := "1"
			switch r.Intn(10) {
			case 0:
				body = use()
			case 1:
				body = `(op + ` + use() + ` ` + use() + `)`
			}
			b.WriteString(def(fmt.Sprint("d", i), body))
		}
		p, code := core.Read(all + b.String() + def("main", sum(main...)))
		if code != api.OK || core.Check(p) != api.OK {
			t.Log("too great:", core.Size(p))
			continue
		}
		want, code := plainMono(p, "main")
		got, gotCode := mono.Mono(p, "main")
		if code != gotCode || !alike(got, want) {
			t.Fatalf("%s comes to %v with %s, want %v with %s", printed(p), gotCode, short(names(got)), code, short(names(want)))
		}
		met[code]++
	}
	t.Log(met)
	for _, code := range []api.Errno{api.OK, api.ErrBig, api.ErrMonoMany, api.ErrMonoName} {
		if met[code] < 6 {
			t.Error(code, "is met", met[code], "times")
		}
	}
}

// TestSoon: W1: programs as great as may be, some of which would take very long, if each type were gone through wherever it is put.
func TestSoon(t *testing.T) {
	const data = `(data A () ("A")) (data P (a b) ("P"))`
	pairs := func(n int, first string) string { return `(P ` + first + ` ` + nested(n-1, "(P A ", "A", ")") + `)` } // of 2 n + 1 nodes
	great := pairs(170, "A") + " " + pairs(170, "A") + " " + pairs(170, "A") + " "
	var apart, bits []string
	for i := range 90 {
		apart = append(apart, `(global "no2" `+pairs(230, "b")+` `+pairs(230-i, "b")+`)`)
	}
	for _, text := range spread(400) {
		bits = append(bits, `(global "by" `+text+` Int)`)
	}
	wide := nested(240, "(Pair a ", "a", ")")
	for _, x := range []struct{ what, text string }{
		{"an instance with a long name that is needed very often", data + `(def "no4" (a b c d) Int 1) (def "by" (a b c d) Int ` + sum(times(14000, `(global "no4" a b c d)`)...) + `)` +
			def("main", sum(`(global "by" `+great+pairs(90, "A")+`)`, `(global "by" `+great+pairs(91, "A")+`)`, `(global "by" `+great+pairs(92, "A")+`)`))},
		{"the same with types put together", data + `(def "no4" (a b c d) Int 1) (def "by" (a b c d) Int ` + sum(times(9000, `(global "no4" (List a) (List b) (List c) (List d))`)...) + `)` +
			def("main", sum(`(global "by" `+great+pairs(90, "A")+`)`, `(global "by" `+great+pairs(91, "A")+`)`, `(global "by" `+great+pairs(92, "A")+`)`))},
		{"great types in a definition that is needed at many", data + no + `(def "by" (a b) Int ` + sum(apart...) + `)` + def("main", sum(bits...))},
		{"a definition that grows very great", `(def "by" (a) Int ` + sum(times(195, `(seq (fail 1 `+wide+`) 1)`)...) + `)` + def("main", `(global "by" `+lists(500)+`)`)},
		{"types that become very great", no + `(def "by" (a) Int ` + sum(times(195, `(global "no" `+wide+`)`)...) + `)` + def("main", `(global "by" `+lists(500)+`)`)},
		{"very many types that become great", `(def "p" (` + numbers(30000, " a#") + `) Int 1) (def "by" (a) Int (global "p"` + strings.Repeat(" a", 30000) + `))` + def("main", `(global "by" `+lists(500)+`)`)},
		{"very many definitions, each in turn", numbers(24000, def("d#", `(global "d$")`)) + def("d24000", "1") + def("main", `(global "d23100")`)},
		{"very many definitions, all at once", numbers(20000, def("d#", "1")) + def("main", sum(strings.Split(strings.TrimSuffix(numbers(10000, `(global "d#")~`), "~"), "~")...))},
		{"definitions that are very deep", `(def "by" (a) Int ` + nested(api.MaxDeep-1, "(seq (fail 1 a) ", "1", ")") + `)` + def("main", `(op + (global "by" Bool) (op + (global "by" Int) (global "by" Unit)))`)},
	} {
		p := read(t, x.text)
		soon(t, x.what, func() {
			q, code := mono.Mono(p, "main")
			if code != api.OK && code != api.ErrBig && code != api.ErrMonoMany {
				t.Error(x.what, code)
			}
			t.Log(x.what, core.Size(p), code, len(q.Defs))
		})
	}
}
