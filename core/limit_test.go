package core_test

import (
	"fmt"
	"strings"
	"testing"

	"sloth/api"
	"sloth/core"
)

// TestSize: P8.3: everything counts, also what stands where it has no meaning.
func TestSize(t *testing.T) {
	for _, x := range []struct {
		text string
		want int
	}{
		{"", 0}, {id, 9}, {konst, 15}, {`(data M.T (a) ("M.A" a) ("M.B"))`, 4}, {shapy, 11}, {`(def "f" (a b c) Int 1)`, 3},
		{`(def "f" () Int (case 1 (int 1 2) (else 3)))`, 8}, {`(def "f" () Int (case (con "Nil" Int) (con "Cons" ("a" "b") "a")))`, 9},
		{`(def "f" () Int (let (("x" (List Int) 1) ("y" Int 2)) 3))`, 11}, {`(def "f" () Int (hard "x" Int 1 2))`, 7}, {`(def "f" () Int (lam "x" Int 2))`, 7}, {`(def "f" () Int (fail 1 (Int -> Int)))`, 6}, {`(def "f" () Int (global "g" Int (List a)))`, 6},
	} {
		if n := core.Size(read(t, x.text)); n != x.want {
			t.Errorf("Size(%s): %d, want %d", x.text, n, x.want)
		}
	}
	types := []api.Type{{}, {Kind: api.TyInt, Args: []api.Type{{}, {Kind: 9, Args: []api.Type{{}}}}}}                         // 5 nodes
	stray := api.Expr{Kind: 77, Types: types, Args: []api.Expr{{}}, Binds: []api.Bind{{Type: types[1]}}, Alts: []api.Alt{{}}} // 1, 5, 1, 1 + 4 + 1, 1 + 1
	all := api.Expr{Kind: api.ExprInt, Args: []api.Expr{stray, stray}, Binds: []api.Bind{{Value: stray}}, Alts: []api.Alt{{Kind: api.AltElse, Vars: []string{"", "", ""}, Body: stray}}}
	for i, x := range []struct {
		p    api.Program
		want int
	}{
		{one(api.Type{}, api.Expr{}), 3}, {one(types[1], api.Expr{}), 6}, {one(integer, stray), 2 + 15}, {one(integer, all), 2 + 1 + 30 + 2 + 15 + 4 + 15},
		{api.Program{Datas: []api.Data{{}, {Params: []string{"a", "b"}, Cons: []api.Con{{}, {Fields: types}}}}}, 9},
		{one(integer, lam("x", integer, num(1))), 7},
	} {
		if n := core.Size(x.p); n != x.want || n != plainSize(x.p) {
			t.Errorf("%d: Size %d, want %d", i, n, x.want)
		}
	}
}

// wide is a right expression of so many nodes, an odd number, that is not deep.
func wide(nodes int) api.Expr {
	if nodes == 1 {
		return num(1)
	}
	left := (nodes - 1) / 4 * 2
	return op("+", wide(nodes-1-(left|1)), wide(left|1))
}

// TestMaxCore: P8.1, P8.2, P8.6, P8.7: MaxCore nodes and one more.
func TestMaxCore(t *testing.T) {
	whole := one(integer, wide(api.MaxCore-3)) // a Def and its Type besides
	more := one(integer, op("+", wide(api.MaxCore-101), seq(con("Nil", great(49, integer)), wide(47))))
	if n := core.Size(whole); n != api.MaxCore-1 {
		t.Fatal(n)
	}
	if n := core.Size(more); n != api.MaxCore {
		t.Fatal(n)
	}
	over := one(integer, op("+", wide(api.MaxCore-101), seq(con("Nil", great(50, integer)), wide(47))))
	for i, p := range []api.Program{whole, more} {
		checkCode(t, fmt.Sprint(i), core.Check(p), api.OK)
		text, code := core.Print(p)
		checkCode(t, "Print", code, api.OK)
		if q, code := core.Read(text); code != api.OK || !alike(p, q) {
			t.Error("Read", code)
		}
	}
	checkCode(t, "one more", core.Check(over), api.ErrBig)
	_, code := core.Print(over)
	checkCode(t, "Print of one more", code, api.ErrBig)
	_, code = core.Read(told(over))
	checkCode(t, "Read of one more", code, api.ErrBig)
	_, code = core.Read(told(over) + `(def "f" () Int 1)`)
	checkCode(t, "Read of many more", code, api.ErrBig)
	_, code = core.Read(told(over) + `(def "f" () Int)`)
	checkCode(t, "Read of what is no text", code, api.ErrCoreText)
	is, code := core.Same(whole, over)
	if is || code != api.ErrBig {
		t.Error("Same", is, code)
	}

	e := wide(api.MaxCore - 1)
	if is, code := core.Type(api.Program{}, nil, e); code != api.OK || !alike(is, integer) {
		t.Error("Type", is, code)
	}
	e = op("+", wide(api.MaxCore-101), seq(con("Nil", great(51, integer)), wide(47)))
	if n := plainExprSize(e); n != api.MaxCore {
		t.Fatal(n)
	}
	_, code = core.Type(api.Program{}, nil, e)
	checkCode(t, "Type of MaxCore nodes", code, api.OK)
	_, code = core.Type(more, nil, e)
	checkCode(t, "Type of MaxCore nodes in MaxCore nodes", code, api.OK)
	e = op("+", wide(api.MaxCore-101), seq(con("Nil", great(52, integer)), wide(47)))
	is2, code := core.Type(api.Program{}, nil, e)
	if code != api.ErrBig || !alike(is2, api.Type{}) {
		t.Error("Type of one more", is2, code)
	}
}

// TestMaxLocals: P8.2: MaxCore locals and one more.
func TestMaxLocals(t *testing.T) {
	l := make([]api.Bind, api.MaxCore+1)
	for i := range l {
		l[i] = api.Bind{Name: fmt.Sprint(i), Type: integer, Value: tooDeep}
	}
	l[77].Type = variable("z")
	if is, code := core.Type(api.Program{}, l[:api.MaxCore], local("77")); code != api.OK || !alike(is, variable("z")) {
		t.Error(is, code)
	}
	_, code := core.Type(one(integer, api.Expr{}), l, tooDeep)
	checkCode(t, "one more", code, api.ErrLong)
}

// TestTypeOrder: P8.2: what is wrong with which comes first.
func TestTypeOrder(t *testing.T) {
	good, bad := one(integer, num(1)), one(integer, local("x"))
	deep := chain(api.MaxDeep + 1)
	long := api.Bind{Name: strings.Repeat("n", api.MaxName+1), Type: integer}
	x := api.Bind{Name: "x", Type: integer}
	wrong := api.Bind{Name: "y", Type: data("List")}
	for i, y := range []struct {
		p      api.Program
		locals []api.Bind
		e      api.Expr
		want   api.Errno
	}{
		{bad, []api.Bind{wrong}, deep, api.ErrCoreName}, {good, []api.Bind{wrong}, deep, api.ErrNest}, {good, []api.Bind{wrong}, api.Expr{Types: make([]api.Type, api.MaxCore)}, api.ErrBig}, {good, []api.Bind{wrong}, api.Expr{Types: make([]api.Type, api.MaxCore-1)}, api.ErrCoreType},
		{good, []api.Bind{wrong, long}, local("z"), api.ErrCoreType}, {good, []api.Bind{long, wrong}, local("z"), api.ErrCoreName}, {good, []api.Bind{x, x}, api.Expr{}, api.ErrCoreName}, {good, []api.Bind{x, {Name: "x"}}, api.Expr{}, api.ErrCoreName}, {good, []api.Bind{{}}, api.Expr{}, api.ErrCoreName}, {good, []api.Bind{{Name: "x"}}, api.Expr{}, api.ErrCoreType},
		{good, []api.Bind{{Name: "x", Type: variable("A")}}, num(1), api.ErrCoreType}, {good, []api.Bind{{Name: "x", Type: variable("a")}}, num(1), api.OK}, {good, []api.Bind{{Name: "x", Type: great(500, variable("a"))}}, num(1), api.OK}, {good, []api.Bind{{Name: "x", Type: great(501, variable("a"))}}, num(1), api.ErrCoreType}, {good, []api.Bind{{Name: "x", Type: data("M.T")}}, num(1), api.ErrCoreType},
		{good, []api.Bind{x}, lam("x", integer, num(1)), api.ErrCoreName}, {good, []api.Bind{x}, cases(con("Nil", integer), altCon("Cons", num(1), "y", "x")), api.ErrCoreName}, {good, []api.Bind{x}, hard("x", integer, num(1), num(1)), api.ErrCoreName}, {good, []api.Bind{x}, let(num(1), api.Bind{Name: "x", Type: integer, Value: num(1)}), api.ErrCoreName},
		{good, []api.Bind{x}, global("f"), api.OK}, {good, nil, local("f"), api.ErrCoreName}, {good, nil, fail(1, variable("a")), api.OK}, {good, nil, fail(1, variable("1")), api.ErrCoreType}, {good, nil, con("Nil", variable("any'")), api.OK}, {good, nil, con("Nil", variable("any ")), api.ErrCoreType}, {good, nil, lam("x", variable("a"), lam("y", variable("b"), app(lam("z", variable("a"), num(1)), local("y")))), api.ErrCoreType}, {good, nil, lam("x", variable("a"), lam("y", variable("b"), app(lam("z", variable("b"), num(1)), local("y")))), api.OK},
	} {
		is, code := core.Type(y.p, y.locals, y.e)
		if code != y.want || code != api.OK && !alike(is, api.Type{}) {
			t.Errorf("%d: %v, %v, want %v", i, is, code, y.want)
		}
	}
}

// nested are the ways in which an expression can stand in another one; each is one deeper.
var nested = map[string]func(e api.Expr, i int) api.Expr{
	"function": func(e api.Expr, i int) api.Expr { return app(lam(fmt.Sprint(i), integer, num(1)), e) },
	"first":    func(e api.Expr, i int) api.Expr { return op("+", e, num(1)) },
	"second":   func(e api.Expr, i int) api.Expr { return seq(num(1), e) },
	"value": func(e api.Expr, i int) api.Expr {
		return let(num(1), api.Bind{Name: fmt.Sprint(i), Type: integer, Value: e})
	},
	"other value": func(e api.Expr, i int) api.Expr {
		return let(num(1), api.Bind{Name: fmt.Sprint(i), Type: integer, Value: num(1)}, api.Bind{Name: fmt.Sprint("x", i), Type: integer, Value: e})
	},
	"hard":        func(e api.Expr, i int) api.Expr { return hard(fmt.Sprint(i), integer, e, num(1)) },
	"body":        func(e api.Expr, i int) api.Expr { return hard(fmt.Sprint(i), integer, num(1), e) },
	"looked at":   func(e api.Expr, i int) api.Expr { return cases(e, altElse(num(1))) },
	"alternative": func(e api.Expr, i int) api.Expr { return cases(num(1), altInt(1, num(1)), altElse(e)) },
}

// TestMaxDeep: P8.1, P8.2, P8.6, P8.8: MaxDeep deep and one deeper.
func TestMaxDeep(t *testing.T) {
	t.Parallel()
	for what, around := range nested {
		e := app(lam("in", integer, num(1)), num(1)) // 3 deep
		for i := range api.MaxDeep - 3 {
			e = around(e, i)
		}
		if n := plainDepth(e); n != api.MaxDeep {
			t.Fatal(what, n)
		}
		p := one(integer, e)
		checkCode(t, what, core.Check(p), api.OK)
		text, code := core.Print(p)
		checkCode(t, what, code, api.OK)
		if q, code := core.Read(text); code != api.OK || !alike(p, q) {
			t.Error(what, code)
		}
		if is, code := core.Type(p, nil, e); code != api.OK || !alike(is, integer) {
			t.Error(what, code)
		}
		deeper := around(e, api.MaxDeep)
		p = one(integer, deeper)
		checkCode(t, what, core.Check(p), api.ErrNest)
		_, code = core.Read(told(p))
		checkCode(t, what, code, api.ErrNest)
		_, code = core.Type(api.Program{}, nil, deeper)
		checkCode(t, what, code, api.ErrNest)
		_, code = core.Print(p)
		checkCode(t, what, code, api.ErrNest)
		_, code = core.Same(api.Program{}, p)
		checkCode(t, what, code, api.ErrNest)
	}
	// Where it has no meaning it nests too; of several definitions one is enough.
	p := one(integer, num(1))
	p.Defs = append(p.Defs, api.Def{Body: api.Expr{Kind: api.ExprInt, Alts: []api.Alt{{Body: chain(api.MaxDeep)}}}})
	checkCode(t, "no meaning", core.Check(p), api.ErrNest)
	p.Defs[1].Body = chain(api.MaxDeep)
	checkCode(t, "no meaning", core.Check(p), api.ErrCoreName)
	// Functions around functions: types are not counted, but they are too great.
	e := num(1)
	for i := range 300 {
		e = lam(fmt.Sprint(i), integer, e)
	}
	_, code := core.Type(api.Program{}, nil, e)
	checkCode(t, "functions", code, api.ErrCoreType)
}

// TestBrackets: P8.6: 4 MaxDeep brackets open and one more.
func TestBrackets(t *testing.T) {
	deep := func(n int) string { // a type with so many brackets
		return `(def "f" () ` + strings.Repeat("(Int -> ", n) + "Int" + strings.Repeat(")", n) + " 1)"
	}
	most := 4 * api.MaxDeep
	checkText(t, deep(most-1), api.ErrCoreType)
	for _, x := range []struct {
		text string
		want api.Errno
	}{
		{deep(most), api.ErrNest}, {deep(most) + ")))))", api.ErrNest}, {strings.Repeat("(", most), api.ErrCoreText}, {strings.Repeat("(", most+1), api.ErrNest}, {strings.Repeat("(", most+1) + strings.Repeat(")", most+1), api.ErrNest},
		{strings.Repeat(")", 100) + strings.Repeat("(", most), api.ErrCoreText}, {strings.Repeat(")", 100) + strings.Repeat("(", most+1), api.ErrNest}, {strings.Repeat("()", 2*most), api.ErrCoreText}, {strings.Repeat("(", most) + ")(" + ")(", api.ErrCoreText}, {strings.Repeat("(", most) + ")((", api.ErrNest},
		{strings.Repeat("(", most+1) + "\x00", api.ErrCoreText}, {strings.Repeat("(", most+1) + `"`, api.ErrCoreText}, {strings.Repeat("(", most+1) + `""`, api.ErrCoreText}, {strings.Repeat("(", most+1) + `"` + strings.Repeat("n", api.MaxName+1) + `"`, api.ErrCoreText}, {strings.Repeat("(", most+1) + `"` + strings.Repeat("n", api.MaxName) + `"`, api.ErrNest},
		{`(def "` + strings.Repeat("(", api.MaxName) + `" () Int "` + strings.Repeat("(", api.MaxName) + `"` + strings.Repeat(` "`+strings.Repeat("(", api.MaxName)+`"`, 10), api.ErrCoreText},
	} {
		_, code := core.Read(x.text)
		checkCode(t, x.text, code, x.want)
	}
}

// TestMaxCoreText: P8.6, P8.7: MaxCoreText bytes and one more.
func TestMaxCoreText(t *testing.T) {
	text := `(def "f" () Int 1)`
	full := text + strings.Repeat("\n", api.MaxCoreText-len(text))
	checkText(t, full, api.OK)
	for _, s := range []string{full + " ", strings.Repeat("\x00", api.MaxCoreText+1), strings.Repeat("(", api.MaxCoreText+1)} {
		p, code := core.Read(s)
		if code != api.ErrLong || !alike(p, api.Program{}) {
			t.Error(code)
		}
	}
	for _, sign := range []string{"n", `"`, `\`} { // each of the last two takes two bytes
		for more, want := range []api.Errno{api.OK, api.ErrBig} {
			p := lengthy(sign, api.MaxCoreText+more)
			text := told(p)
			if len(text) != api.MaxCoreText+more {
				t.Fatal(len(text))
			}
			if want != api.OK {
				text = ""
			}
			s, code := core.Print(p)
			if s != text || code != want {
				t.Errorf("%d more, of %s: %d bytes, %v", more, sign, len(s), code)
			}
			if q, code := core.Read(s); want == api.OK && (code != api.OK || !alike(p, q)) {
				t.Error("Read", code)
			}
		}
	}
}

// lengthy is a right program whose text has so many bytes, by long names with that sign.
func lengthy(sign string, bytes int) api.Program {
	var p api.Program
	add := func(name string) {
		p.Defs = append(p.Defs, api.Def{Name: name, Type: integer, Body: num(1)})
		bytes -= len(told(api.Program{Defs: p.Defs[len(p.Defs)-1:]}))
	}
	for i := 0; bytes > 10000; i++ {
		add(fmt.Sprint(i) + strings.Repeat(sign, 4000))
	}
	for i := 0; bytes > 1000; i++ {
		add(fmt.Sprint("short", i))
	}
	add(strings.Repeat("m", bytes-len("(def \"\" () Int 1)\n")))
	return p
}

// TestMaxName: P8.1, P8.6: names of MaxName bytes and one more, wherever they stand.
func TestMaxName(t *testing.T) {
	at, over := strings.Repeat("n", api.MaxName), strings.Repeat("n", api.MaxName+1)
	big, tooBig := "N"+at[1:], "N"+at
	marks := strings.Repeat(`\"`, api.MaxName)
	for what, text := range map[string]string{
		"definition":  `(def "x" () Int 1)`,
		"param":       `(def "f" (x) Int 1)`,
		"variable":    `(def "f" (x) (x -> x) (lam "y" x "y"))`,
		"constructor": `(data T () ("x"))`,
		"its param":   `(data T (x) ("c" x))`,
		"data":        `(data X () ("c")) (def "f" () X (con "c"))`,
		"point":       `(data A.X () ("c"))`,
		"lam":         `(def "f" () (Int -> Int) (lam "x" Int "x"))`,
		"let":         `(def "f" () Int (let (("y" Int 1) ("x" Int "x")) "x"))`,
		"hard":        `(def "f" () Int (hard "x" Int 1 "x"))`,
		"alternative": `(def "f" () Int (case (con "Nil" Int) (con "Cons" ("y" "x") 1)))`,
	} {
		put := func(small, large string) api.Program {
			p := read(t, text)
			for _, name := range sitesOf(&p).names {
				*name = strings.NewReplacer("A.X", "A.N"+large[3:], "X", large, "x", small).Replace(*name)
			}
			for _, u := range sitesOf(&p).types {
				if u.Name == "x" || u.Name == "X" {
					u.Name = strings.NewReplacer("X", large, "x", small).Replace(u.Name)
				}
			}
			return p
		}
		p := put(at, big)
		checkCode(t, what, core.Check(p), api.OK)
		if q, code := core.Read(told(p)); code != api.OK || !alike(p, q) {
			t.Error(what, code)
		}
		p = put(over, tooBig)
		checkCode(t, what, core.Check(p), api.ErrCoreName)
		_, code := core.Read(told(p))
		checkCode(t, what, code, api.ErrCoreText)
	}
	checkText(t, `(def "`+marks+`" () Int 1)`, api.OK)
	_, code := core.Read(`(def "` + marks + `n" () Int 1)`)
	checkCode(t, "marks", code, api.ErrCoreText)
	for i, b := range []api.Bind{{Name: at, Type: integer}, {Name: over, Type: integer}} {
		_, code := core.Type(api.Program{}, []api.Bind{b}, num(1))
		checkCode(t, "a local", code, []api.Errno{api.OK, api.ErrCoreName}[i])
	}
	checkCode(t, "a local that is not there", core.Check(one(integer, local(over))), api.ErrCoreName)
	word := strings.Repeat("+", 100000) // a word has no limit
	checkText(t, `(def "f" () Int (op `+word+` 1 2))`, api.ErrCoreForm)
}

// TestDataLimits: P8.1: MaxParams, MaxCons, MaxFields and one more.
func TestDataLimits(t *testing.T) {
	make := func(params, cons, fields int) api.Program {
		d := api.Data{Name: "T"}
		for i := range params {
			d.Params = append(d.Params, fmt.Sprint("a", i))
		}
		for i := range cons {
			d.Cons = append(d.Cons, api.Con{Name: fmt.Sprint("c", i)})
		}
		for range fields {
			d.Cons[cons-1].Fields = append(d.Cons[cons-1].Fields, integer)
		}
		return api.Program{Datas: []api.Data{d}}
	}
	for _, x := range []struct {
		params, cons, fields int
		want                 api.Errno
	}{
		{0, 1, 0, api.OK}, {api.MaxParams, api.MaxCons, api.MaxFields, api.OK}, {api.MaxParams + 1, 1, 0, api.ErrCoreData}, {0, api.MaxCons + 1, 0, api.ErrCoreData}, {0, 2, api.MaxFields + 1, api.ErrCoreData}, {0, 0, 0, api.ErrCoreData}, {1000, 1, 1, api.ErrCoreData},
	} {
		p := make(x.params, x.cons, x.fields)
		checkCode(t, fmt.Sprint(x), core.Check(p), x.want)
		if q, code := core.Read(told(p)); code != api.OK || !alike(p, q) {
			t.Error(x, code)
		}
	}
	var params []string // a definition may have many more
	var types []api.Type
	for i := range 3000 {
		params, types = append(params, fmt.Sprint("p", i)), append(types, great(1+i%5, variable(fmt.Sprint("p", (i+1)%3000))))
	}
	p := api.Program{Defs: []api.Def{{Name: "f", Params: params, Type: variable("p7"), Body: global("g", types...)}, {Name: "g", Params: params, Type: variable("p5"), Body: fail(1, variable("p5"))}}}
	checkCode(t, "many Params", core.Check(p), api.ErrCoreType)
	p.Defs[0].Type = types[5]
	checkCode(t, "many Params", core.Check(p), api.OK)
	p.Defs[0].Body.Types = types[:2999]
	checkCode(t, "one too few", core.Check(p), api.ErrCoreType)
}

// TestMaxType: P8.1, P8.6: types of MaxType nodes and one more, wherever they stand.
func TestMaxType(t *testing.T) {
	for more, want := range []api.Errno{api.OK, api.ErrCoreType} {
		n := api.MaxType + more
		g, lesser := great(n, integer), great(n-2, integer)
		for what, p := range map[string]api.Program{
			"a definition's":       one(g, fail(1, g)),
			"a lam's, by its Bind": one(integer, seq(lam("x", lesser, num(1)), num(1))),
			"a lam's, by its body": one(integer, seq(lam("x", integer, fail(1, lesser)), num(1))),
			"a let's":              one(integer, let(num(1), api.Bind{Name: "x", Type: g, Value: fail(1, g)})),
			"a hard's":             one(integer, hard("x", g, fail(1, g), num(1))),
			"a fail's":             one(integer, seq(fail(1, g), num(1))),
			"Types":                {Defs: []api.Def{{Name: "f", Params: []string{"a"}, Type: integer, Body: global("f", g)}}},
			"a constructor's":      one(integer, seq(con("Nil", great(n-1, integer)), num(1))),
		} {
			checkCode(t, fmt.Sprint(what, " of ", n), core.Check(p), want)
			if q, code := core.Read(told(p)); code != api.OK || !alike(p, q) {
				t.Error(what, code)
			}
		}
		d := api.Program{Datas: []api.Data{{Name: "T", Params: []string{"a"}, Cons: []api.Con{{Name: "c", Fields: []api.Type{integer, great(n, variable("a"))}}}}}}
		checkCode(t, "a field", core.Check(d), []api.Errno{api.OK, api.ErrCoreData}[more])
		_, code := core.Type(api.Program{}, []api.Bind{{Name: "x", Type: g}}, num(1))
		checkCode(t, "a local", code, want)
	}
}

// TestReplaced: P8.1: a type with others in its variables' places has MaxType nodes, and more.
func TestReplaced(t *testing.T) {
	a := variable("a")
	twice := fun(a, fun(a, integer)) // 3 nodes, and two of a
	for nodes := 240; nodes < 255; nodes++ {
		for extra := range 3 {
			u := great(nodes, data("Bool"))
			is := twice
			for range extra {
				is = data("List", is)
			}
			want := api.OK
			if 3+2*nodes+extra > api.MaxType {
				want = api.ErrCoreType
			}
			what := fmt.Sprint(nodes, " ", extra)
			p := api.Program{Defs: []api.Def{{Name: "g", Params: []string{"a"}, Type: is, Body: fail(1, is)}, {Name: "f", Type: integer, Body: seq(global("g", u), num(1))}}}
			checkCode(t, "a definition "+what, core.Check(p), want)

			p = one(integer, cases(fail(1, data("T", u)), altCon("c", num(1), "x", "y")))
			p.Datas = []api.Data{{Name: "T", Params: []string{"a"}, Cons: []api.Con{{Name: "c", Fields: []api.Type{integer, is}}}}}
			checkCode(t, "a field "+what, core.Check(p), want)
			p.Defs[0].Body.Alts[0].Vars[1] = "x" // names come first
			checkCode(t, "a field, a name twice "+what, core.Check(p), api.ErrCoreName)
			p.Defs[0].Body.Alts[0].Vars[1] = "y"
			p.Defs[0].Body.Alts[0].Body = local("z") // the Body comes behind it
			checkCode(t, "a field, a name in the Body "+what, core.Check(p), max(want, api.ErrCoreName))
			p.Defs[0].Body.Alts = []api.Alt{altElse(num(1))} // where it becomes no local's type
			checkCode(t, "no field "+what, core.Check(p), api.OK)

			p.Defs[0].Body = seq(con("c", u), num(1)) // Int, the field, T of u, and two functions
			want = api.OK
			if 2+1+(3+2*nodes+extra)+1+nodes > api.MaxType {
				want = api.ErrCoreType
			}
			checkCode(t, "a constructor "+what, core.Check(p), want)
		}
	}
	for nodes := 120; nodes < 130; nodes++ { // Pair u u: 2 functions, 2 u, Pair, 2 u
		want := api.OK
		if 3+4*nodes > api.MaxType {
			want = api.ErrCoreType
		}
		u := great(nodes, integer)
		checkCode(t, fmt.Sprint("Pair ", nodes), core.Check(one(integer, seq(con("Pair", u, u), num(1)))), want)
	}
}
