package elab_test

import (
	"fmt"
	"strings"
	"testing"
	"time"

	"sloth/api"
	"sloth/core"
)

// filled writes definitions of so many nodes in all, 2000 or more: most have a type of 400.
func filled(nodes int) string {
	var b strings.Builder
	b.WriteString("x::" + sized(400) + ";x=stop;")
	nodes -= 802
	for i := 0; nodes > 0; i++ {
		body := "1"
		switch {
		case nodes >= 420:
			body = "x"
			nodes -= 402
		case nodes%3 != 0:
			body = "stop"
			nodes -= 4
		default:
			nodes -= 3
		}
		fmt.Fprint(&b, "x", i, "=", body, ";")
	}
	return b.String()
}

// TestMaxCore: P9.1: a program of MaxCore nodes, and one above.
func TestMaxCore(t *testing.T) {
	t.Parallel()
	for nodes := api.MaxCore - 3; nodes <= api.MaxCore; nodes++ {
		p := checkTaken(t, "module M;"+filled(nodes))
		if n := core.Size(p); n != nodes {
			t.Error("the test counts wrong:", n, nodes)
		}
	}
	for nodes := api.MaxCore + 1; nodes <= api.MaxCore+5; nodes++ {
		checkFault(t, []string{"module M;" + filled(nodes)}, tooGreat)
	}
	// all modules count, and their data types: a Data, its Con and the nodes of a field
	const data = "data T=C [Int];"
	checkTaken(t, "module M;"+filled(api.MaxCore/2-4), "module N;"+data+filled(api.MaxCore/2))
	checkFault(t, []string{"module M;" + filled(api.MaxCore/2-3), "module N;" + data + filled(api.MaxCore/2)}, tooGreat)
	checkFault(t, []string{"module N;" + filled(api.MaxCore), "module M;" + data}, tooGreat)
	// what each thing counts: of all but one the size is told
	for _, x := range []string{
		"data A a b = B | C a (A b a);", "f x = x;", "f x y = (y, x);", "f = let {x = 1; y = [x]} in y;", "f (x : _) = [x]; f [] = [];", "f 0 0 = 1; f a b = a + b;",
		"f = (+);", "f = (`seq` 1);", "f = if True then seq 1 2 else stop;", "f = let {g x = x} in g; h = f 1;",
	} {
		size := core.Size(checkTaken(t, "module M;"+x))
		checkTaken(t, "module M;"+filled(api.MaxCore-size)+x)
		checkFault(t, []string{"module M;" + x + filled(api.MaxCore-size+1)}, tooGreat)
	}
}

// soon: what it does takes no longer than work that grows about as the text does.
func soon(t *testing.T, what string, do func()) {
	t.Helper()
	done := make(chan struct{})
	go func() {
		defer close(done)
		do()
	}()
	select {
	case <-done:
	case <-time.After(3 * time.Minute):
		t.Fatal("too long:", what)
	}
}

// TestMaxTree: P9.1: rows whose tree has MaxTree nodes, and one more.
func TestMaxTree(t *testing.T) {
	rows := numbers(49, "f # 0=1;") + numbers(97, "f _ $=2;")
	checkTaken(t, "module M;"+rows)
	checkTaken(t, "module M;"+rows+"f 48 97=3;")
	checkBad(t, rows+"f 48 1000=3;", api.ErrBig, "f")
	checkBad(t, "g=f;"+rows+"f _ 1000=3;", api.ErrBig, "f")
}

// wideRows writes clauses of which 40 rows of 64 variables stand at 11 places each.
func wideRows(f string) string {
	var wide []string
	for i := range 8 {
		wide = append(wide, "(V"+strings.ReplaceAll(numbers(8, " v#"), "v", fmt.Sprint("v", i, "_"))+")")
	}
	return numbers(10, f+" _ # 0=1;") + numbers(40, f+" (W "+strings.Join(wide, " ")+") _ $=2;")
}

// TestGreat: P9.1: programs that are above MaxCore by far, for one reason or another; behind and ahead of them rows that may not be, which come first.
func TestGreat(t *testing.T) {
	t.Parallel()
	great := func(n int) string { return "x::" + sized(n) + ";x=stop;" }
	bad := "w=case[]of{[" + list(500, "1") + "]->1};"
	vars := "data V=V Int Int Int Int Int Int Int Int;data W=W V V V V V V V V;"
	for what, decls := range map[string]string{
		"types of constructors":  great(150) + numbers(8, "y#=["+list(100, "x")+"];"),
		"types of definitions":   great(200) + "k::a->b->Int;k y z=1;" + numbers(260, "y#=k x x;"),
		"types of locals":        great(400) + "y=let{" + numbers(300, "z#=x;") + "}in 1;",
		"types of lambdas":       great(100) + numbers(150, "y#=\\a b->[a,b,x];"),
		"types of failures":      great(400) + numbers(150, "y# True=x;"),
		"types that are told":    great(400) + numbers(260, "y#=x;"),
		"trees":                  numbers(20, strings.ReplaceAll("b"+badRows(9), "bad", "bad#")),
		"trees and great types":  great(400) + numbers(4, strings.ReplaceAll(strings.ReplaceAll("b"+badRows(9), "bad", "bad#"), "= 1", "= x")) + numbers(200, "z#=bad0;"),
		"calls of rows":          vars + wideRows("f") + wideRows("g"),
		"calls of rows in a let": vars + "z=let{" + wideRows("f") + wideRows("g") + "}in 1;",
		"letters":                numbers(24, "y#=\""+strings.Repeat("a", 900)+"\";"),
	} {
		t.Run(what, func(t *testing.T) {
			t.Parallel()
			soon(t, what, func() {
				checkFault(t, []string{"module M;" + decls}, tooGreat)
				checkBad(t, bad+decls, api.ErrBig, "w")
				checkBad(t, decls+"v=w;"+bad, api.ErrBig, "w")
				checkBad(t, decls+"v 0 0=1;v _ _=let{"+bad+"}in w;", api.ErrBig, "v")
			})
		})
	}
	var datas []string
	for i := range api.MaxTexts {
		datas = append(datas, fmt.Sprint("module M", i, ";", numbers(300, "data T#=C# (Int,Int) (Int,Int) (Int,Int) (Int,Int) (Int,Int) (Int,Int)|D#;")))
	}
	soon(t, "data types", func() { checkFault(t, datas, tooGreat) })
}

// deepBody writes an expression whose program's is so many levels deep, 18 or more: functions of 16 arguments that nobody calls, within one another.
func deepBody(levels int) string {
	s := "1"
	for at := 1; at < levels; {
		if at+17 <= levels {
			s = "case \\" + strings.Repeat("_ ", 16) + "->" + s + " of{_->1}"
			at += 17
		} else {
			s = "0+(" + s + ")"
			at++
		}
	}
	return s
}

// TestMaxDeep: P9.1: a Body MaxDeep deep, and one deeper.
func TestMaxDeep(t *testing.T) {
	t.Parallel()
	for _, levels := range []int{1, 2, 17, 18, 19, 1000, api.MaxDeep - 1, api.MaxDeep} {
		p := checkTaken(t, "module M; f = "+deepBody(levels)+";")
		if n := depth(&p.Defs[0].Body); n != levels {
			t.Error("the test counts wrong:", n, levels)
		}
	}
	for _, levels := range []int{api.MaxDeep + 1, api.MaxDeep + 2, api.MaxDeep + 100} {
		checkBad(t, "e = 1; f = "+deepBody(levels)+"; g = 1;", api.ErrNest, "f")
	}
	// each kind of place counts one level
	for _, x := range []string{
		"f x = %;", "f = \\x -> %;", "f 0 = %;", "f = [%];", "f = (% ,1);", "f = let {x = %} in 1;", "f = let {x = 1} in %;", "f = case % of {1 -> 2};", "f = case 1 of {1 -> %};", "f = case 1 of {_ -> 2; x -> %};",
		"f = seq (%) 1;", "f = seq 1 (%);", "f = (+ (%));", "f = ((%) +);", "f = if (%) == 1 then 1 else 2;", "f = if True then % else 1;", "f = if True then 1 else %;", "f 0 0 = 1; f x _ = %;",
	} {
		if strings.Contains(x, "_ -> 2") {
			checkTaken(t, "module M; "+strings.ReplaceAll(x, "%", deepBody(api.MaxDeep+1))) // it is left out
			continue
		}
		one := func(levels int) string { return strings.ReplaceAll(x, "%", deepBody(levels)) }
		p := checkTaken(t, "module M; "+one(100))
		more := depth(&p.Defs[0].Body) - 100
		checkTaken(t, "module M; "+one(api.MaxDeep-more))
		checkBad(t, one(api.MaxDeep-more+1), api.ErrNest, "f")
	}
	// the first definition counts, whichever needs which, and its module's text
	checkBad(t, "f = seq g ("+deepBody(api.MaxDeep)+"); g = "+deepBody(api.MaxDeep+1)+";", api.ErrNest, "f")
	deep := "f = " + deepBody(api.MaxDeep+1) + ";"
	checkFault(t, []string{"module A; import B; " + deep, "module C;", "module B; e = 1; " + deep}, api.Fault{Code: api.ErrNest, Text: 2, At: -1, Name: "B.f"})
	// rows that may not be, and what is too great, come ahead
	bad := "w = case [] of {[" + list(500, "1") + "] -> 1};"
	checkBad(t, deep+bad, api.ErrBig, "w")
	checkBad(t, bad+deep, api.ErrBig, "w")
	checkFault(t, []string{"module M; " + deep, "module N; " + filled(api.MaxCore)}, tooGreat)
	checkFault(t, []string{"module M; " + bad, "module N; " + filled(2*api.MaxCore)}, api.Fault{Code: api.ErrBig, Text: 0, At: -1, Name: "M.w"})
}

// depth is how deep an expression is, by the document's words.
func depth(e *api.Expr) int {
	deepest := 0
	for i := range e.Args {
		deepest = max(deepest, depth(&e.Args[i]))
	}
	for i := range e.Binds {
		deepest = max(deepest, depth(&e.Binds[i].Value))
	}
	for i := range e.Alts {
		deepest = max(deepest, depth(&e.Alts[i].Body))
	}
	return deepest + 1
}

// TestLong: W1: texts as long, as deep and as broad as may be.
func TestLong(t *testing.T) {
	t.Parallel()
	for what, decls := range map[string]string{
		"a chain":             numbers(4900, "x#=x$;") + "x4900=1;",
		"a ring":              numbers(4900, "x#=x$;") + "x4900=x0;",
		"one let":             "y=let{" + numbers(4900, "x#=x$;") + "x4900=1}in x0;",
		"lets in one another": "y=" + strings.Repeat("let{x=1}in ", 990) + "x;",
		"cases that hide":     "y=" + strings.Repeat("case 1 of{x->", 990) + "x" + strings.Repeat("}", 990) + ";",
		"a deep call":         "i x=x;y=" + strings.Repeat("i(", 990) + "1" + strings.Repeat(")", 990) + ";",
		"a deep pattern":      "y" + strings.Repeat("[", 160) + "_" + strings.Repeat("]", 160) + "=1;",
		"many locals":         "y=case 1 of{" + numbers(198, "x#->x#;") + "};",
		"many numbers":        "y=case 1 of{" + numbers(198, "#->#;") + "};",
		"clauses":             strings.Repeat("y(a,b)=(b,a);", 200),
		"long rows":           "y [" + strings.TrimSuffix(numbers(490, "x#,"), ",") + "]=x0;y _=1;",
	} {
		soon(t, what, func() { checkTaken(t, "module M;"+decls) })
	}
	// as many data types as definitions, and patterns of some of them
	many := make([]string, api.MaxTexts)
	for i := range many {
		many[i] = fmt.Sprint("module M", i, ";", numbers(700, "data T#=A#|B#;"), numbers(700, "f# A#=1;"))
	}
	soon(t, "many data types", func() { checkFault(t, many, tooGreat) })
	soon(t, "many data types", func() { checkTaken(t, many[:7]...) })
}
