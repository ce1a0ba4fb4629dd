package elab_test

import (
	"strings"
	"testing"

	"sloth/api"
	"sloth/core"
	"sloth/infer"
)

// TestInferFirst: P9.1: each fault of the layers below, as infer.Infer tells it, ahead of what is wrong with rows and with the program.
func TestInferFirst(t *testing.T) {
	long := strings.Repeat(" ", api.MaxText)
	bad := "b" + badRows(10) + " "
	for _, x := range []struct {
		texts []string
		want  api.Fault
	}{
		{make([]string, api.MaxTexts+1), api.Fault{Code: api.ErrLong, Text: -1, At: -1}},
		{[]string{"module M;", long + "x"}, api.Fault{Code: api.ErrLong, Text: 1, At: -1}},
		{[]string{"module M; " + bad, "module N; \x80"}, api.Fault{Code: api.ErrLexByte, Text: 1, At: 10}},
		{[]string{"module M; x = 007;"}, api.Fault{Code: api.ErrLexNumber, Text: 0, At: 14}},
		{[]string{"module M; x = '';"}, api.Fault{Code: api.ErrLexQuote, Text: 0, At: 14}},
		{[]string{"module M; {- x"}, api.Fault{Code: api.ErrLexComment, Text: 0, At: 10}},
		{[]string{"module M;", "module N; x = 1 :+ 2;"}, api.Fault{Code: api.ErrLexOp, Text: 1, At: 16}},
		{[]string{"module M; x = 1" + strings.Repeat(" 1", api.MaxTokens) + ";"}, api.Fault{Code: api.ErrBig, Text: 0, At: 10 + 2*(api.MaxTokens-3)}},
		{[]string{"module M; " + bad + "x = ;"}, api.Fault{Code: api.ErrSyntax, Text: 0, At: 10 + len(bad) + 4}},
		{[]string{"module M; x = " + strings.Repeat("(", api.MaxNest+1)}, api.Fault{Code: api.ErrNest, Text: 0, At: 14 + api.MaxNest}},
		{[]string{"module M; " + bad, "module M;"}, api.Fault{Code: api.ErrScopeModule, Text: 1, At: -1, Name: "M"}},
		{[]string{"module A; import B;", "module B; import A; " + bad}, api.Fault{Code: api.ErrScopeCycle, Text: 0, At: -1, Name: "A"}},
		{[]string{"module M; " + bad + "x = 1; y = 2; x = 3;"}, api.Fault{Code: api.ErrScopeTwice, Text: 0, At: -1, Name: "x"}},
		{[]string{"module A; x = 1;", "module B; x = 1;", "module C; import A; import B; " + bad + "y = x;"}, api.Fault{Code: api.ErrScopeTwo, Text: 2, At: -1, Name: "y"}},
		{[]string{"module M; " + bad + "data T a = C b;"}, api.Fault{Code: api.ErrScopeType, Text: 0, At: -1, Name: "T"}},
		{[]string{"module M; " + bad + "infixl 3 +;"}, api.Fault{Code: api.ErrScopeFix, Text: 0, At: -1, Name: "+"}},
		{[]string{"module M; " + bad + "x = y;"}, api.Fault{Code: api.ErrScopeName, Text: 0, At: -1, Name: "x"}},
		{[]string{"module M; " + bad + "f x = x; f = 1;"}, api.Fault{Code: api.ErrScopeArity, Text: 0, At: -1, Name: "f"}},
		{[]string{"module M; " + bad + "x = 1 == 2 == 3;"}, api.Fault{Code: api.ErrFixMix, Text: 0, At: -1, Name: "M.x"}},
		{[]string{"module M; " + bad + "x = (+ 1 + 2);"}, api.Fault{Code: api.ErrFixSection, Text: 0, At: -1, Name: "M.x"}},
		{[]string{"module M; x = " + strings.Repeat("1+", api.MaxNest) + "1;"}, api.Fault{Code: api.ErrNest, Text: 0, At: -1, Name: "M.x"}},
		{[]string{"module M; " + bad, "module N; data T = C " + sized(499) + ";"}, api.Fault{Code: api.ErrBig, Text: 1, At: -1, Name: "N.C"}},
		{[]string{"module M; " + bad, "module N; x = 1 True;"}, api.Fault{Code: api.ErrInferMismatch, Text: 1, At: -1, Name: "N.x"}},
		{[]string{"module M; " + bad + "x = \\y -> y y;"}, api.Fault{Code: api.ErrInferOccurs, Text: 0, At: -1, Name: "M.x"}},
		{[]string{"module M; " + bad + "x :: a -> b; x y = y;"}, api.Fault{Code: api.ErrInferSig, Text: 0, At: -1, Name: "M.x"}},
		{[]string{"module M; " + bad + "y :: " + sized(497) + "; y = stop; x = seq y 1;"}, api.Fault{Code: api.ErrBig, Text: 0, At: -1, Name: "M.x"}},
	} {
		checkFault(t, x.texts, x.want)
		_, err := infer.Infer(x.texts)
		if told, _ := api.Seen(err); told != x.want {
			t.Errorf("Infer(%s): %v, want %v", short(x.texts), err, x.want)
		}
	}
}

// badRows writes the clauses, without the first letter of their name, of a function of which the tree has 5 * 2^n - 4 nodes: more than may be from n = 10 on. Each row looks at two numbers in a column of its own.
func badRows(n int) string {
	var b strings.Builder
	for i := range n + 1 {
		if i > 0 {
			b.WriteString("b")
		}
		b.WriteString("ad")
		for j := range n {
			if i == j {
				b.WriteString(" (1,1)")
			} else {
				b.WriteString(" _")
			}
		}
		b.WriteString(" = 1;")
	}
	return b.String()
}

// TestBadRows: P9.1: rows of which match.Compile answers an error, wherever they stand.
func TestBadRows(t *testing.T) {
	checkTaken(t, "module M; b"+badRows(9))
	for n := 10; n < 17; n++ {
		checkBad(t, "b"+badRows(n), api.ErrBig, "bad")
	}
	// a list of n numbers: two levels each, and two for its end
	checkTaken(t, "module M; f ["+list(499, "1")+"] = 2;")
	checkBad(t, "f ["+list(500, "1")+"] = 2;", api.ErrBig, "f")
	checkBad(t, "f ["+list(998, "1")+"] = 2;", api.ErrBig, "f")
	checkTaken(t, "module M; f ["+list(998, "_")+"] = 2;")
	rows := "let {b" + badRows(10) + "} in 1"
	cases := "case [] of {[" + list(500, "1") + "] -> 1; _ -> 2}"
	for _, x := range []string{
		"f = %;", "f = \\x -> %;", "f = (%) + 1;", "f = 1 + (%);", "f = seq (%) 1;", "f = [%];", "f = g (%); g x = x;", "f = (+ %);", "f = ((%) +);", "f g = (`g` (%));",
		"f = if (%) == 1 then 1 else 2;", "f = if True then % else 1;", "f = if True then 1 else %;",
		"f = let {y = %} in 1;", "f = let {y = 1} in %;", "f = let {y 0 = 1; y n = %} in 1;", "f = case % of {x -> 1};", "f = case 1 of {x -> %};", "f x = case x of {1 -> 1; _ -> %};",
		"f 0 = 1; f n = %;", "f 0 0 = 1; f n m = %;", "f x = case (x, x) of {(1, 1) -> 1; (a, b) -> %};",
	} {
		for _, bad := range []string{rows, cases} {
			checkBad(t, "e = 1;"+strings.ReplaceAll(x, "%", bad), api.ErrBig, "f")
		}
	}
	long := "\\" + "[" + list(500, "1") + "] -> 1"
	checkBad(t, "f = "+long+";", api.ErrBig, "f")
}

// TestBadRowsLeftOut: P9.1: what stands in a row that is met nowhere is left out with it.
func TestBadRowsLeftOut(t *testing.T) {
	bad := "case [] of {[" + list(500, "1") + "] -> 1; _ -> 2}"
	for _, x := range []string{
		"f = 1; f = %;", "f x = 1; f y = %;", "f True = 1; f False = 2; f x = %;", "f x = case x of {[] -> 1; _ : _ -> 2; y -> %};",
		"f = let {g x = 1; g 0 = %} in g;", "f x = case x of {y -> 1; 2 -> (\\z -> %) 3};",
	} {
		checkTaken(t, "module M; "+strings.ReplaceAll(x, "%", bad))
	}
	// nor does the tree look at what only such a row asks for
	checkTaken(t, "module M; f x = 1; f ["+list(500, "1")+"] = 2;")
}

// greatShared writes a definition f with a shared row, of one variable whose type has n nodes, to something of m nodes.
func greatShared(n, m int) string {
	return "y :: " + sized(n) + "; y = stop; z :: " + sized(m) + "; z = stop; f = let {g = case (y, (0, 0)) of {(_, (0, 0)) -> z; (b, _) -> z}} in 1;"
}

// TestSharedType: P9.1: a shared row whose Type has MaxType nodes, and one that has more.
func TestSharedType(t *testing.T) {
	for _, n := range []int{1, 2, 99, 200} {
		m := api.MaxType - 1 - n
		checkTaken(t, "module M; "+greatShared(n, m))
		checkBad(t, greatShared(n, m+1), api.ErrBig, "f")
		checkBad(t, greatShared(n, api.MaxType), api.ErrBig, "f")
	}
	p := checkTaken(t, "module M; "+greatShared(200, 299))
	g := p.Defs[2].Body.Binds[0].Value // let what is looked at, let what is shared
	if s := g.Args[0].Binds[0]; core.Size(api.Program{Defs: []api.Def{{Type: s.Type}}}) != 2+api.MaxType {
		t.Error("not of MaxType nodes")
	}
	great := "z :: " + sized(500) + "; z = stop; "
	// without variables, and met only once: no function
	checkTaken(t, "module M; "+great+"f = let {g = case (0, 0) of {(0, 0) -> z; _ -> z}} in 1;")
	checkTaken(t, "module M; "+great+"f = let {g = case (0, 0) of {(0, _) -> z; (x, y) -> z}} in 1;")
	checkBad(t, great+"f = let {g = case (0, 0) of {(0, 0) -> z; (x, _) -> z}} in 1;", api.ErrBig, "f")
	checkBad(t, great+"f = let {g = case (0, 0) of {(0, 0) -> z; _ -> stop; (x, _) -> z}; h = case (0, 0) of {(0, 0) -> z; (x, _) -> z}} in 1;", api.ErrBig, "f")
	checkTaken(t, "module M; "+great+"f = let {g = case (0, 0) of {(0, 0) -> z; _ -> stop; (x, _) -> z}} in 1;")
	// many variables
	row := func(n int) string {
		return "f = case ([], (0, 0)) of {(_, (0, 0)) -> 1; ([" + strings.TrimSuffix(numbers(n, "x#,"), ",") + "], _) -> 2; (_, (1, 0)) -> 3};"
	}
	checkTaken(t, "module M; "+row(249))
	checkBad(t, row(250), api.ErrBig, "f")
}

// TestFirstDefinition: P9.1: of several definitions with rows that may not be, the first one counts, whichever needs which; Text is its module's.
func TestFirstDefinition(t *testing.T) {
	long := "case [] of {[" + list(500, "1") + "] -> 1; _ -> 2}"
	shared := "let {g = case (0, 0) of {(0, 0) -> z; (x, _) -> z}} in 1"
	z := "z :: " + sized(500) + "; z = stop; "
	checkBad(t, "a = 1; b = "+long+"; c = "+long+";", api.ErrBig, "b")
	checkBad(t, "a = 1; b = seq c ("+long+"); c = "+long+";", api.ErrBig, "b")
	checkBad(t, "a = 1; b = c; c = "+long+";", api.ErrBig, "c")
	checkBad(t, "a = d; b = "+long+"; c = "+long+"; d = seq a ("+long+");", api.ErrBig, "b")
	checkBad(t, z+"b = seq c ("+shared+"); c = "+long+";", api.ErrBig, "b")
	checkBad(t, z+"b = seq c ("+long+"); c = "+shared+";", api.ErrBig, "b")
	a, b := "module A; import B; f = seq B.f ("+long+");", "module B; e = 1; f = "+long+";"
	checkFault(t, []string{a, b}, api.Fault{Code: api.ErrBig, Text: 1, At: -1, Name: "B.f"})
	checkFault(t, []string{"module C;", b, a}, api.Fault{Code: api.ErrBig, Text: 1, At: -1, Name: "B.f"})
	checkFault(t, []string{a, "module B; f = 1;"}, api.Fault{Code: api.ErrBig, Text: 0, At: -1, Name: "A.f"})
}
