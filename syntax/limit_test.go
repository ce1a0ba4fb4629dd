package syntax_test

import (
	"strings"
	"testing"

	"sloth/api"
	"sloth/lex"
)

const head = "module M; f = "

// P2.1, rules 1 and 2.

func TestLongTexts(t *testing.T) {
	whole := "module M;"
	checkTaken(t, whole+strings.Repeat(" ", api.MaxText-len(whole)))
	checkFault(t, whole+strings.Repeat(" ", api.MaxText-len(whole)+1), api.ErrLong, -1)
	checkFault(t, strings.Repeat("\x00", api.MaxText+1), api.ErrLong, -1)
}

func TestManyTokens(t *testing.T) {
	row := head + "a" + strings.Repeat("+a", 9997) // 3, 2, and 19995 tokens
	if l, err := lex.Lex(row); err != nil || len(l) != api.MaxTokens {
		t.Fatal(len(l), err)
	}
	checkFault(t, row, api.ErrSyntax, len(row))
	checkFault(t, row+";", api.ErrBig, len(row))
	whole := strings.Replace(row, "a+", "", 1) + ";;"
	checkFault(t, whole, api.ErrSyntax, len(whole)-1)
	checkTaken(t, whole[:len(whole)-1])
}

// The fault of a token far behind goes ahead of all that the tokens ahead of it do wrong.
func TestTokensFirst(t *testing.T) {
	opened := strings.Repeat("(", api.MaxNest+1)
	for _, x := range []struct {
		wrong string
		code  api.Errno
	}{{"\x80", api.ErrLexByte}, {"007", api.ErrLexNumber}, {"'ab'", api.ErrLexQuote}, {"{-", api.ErrLexComment}, {":+", api.ErrLexOp}} {
		for _, ahead := range []string{"module M; f = ", "nothing ", head + opened + " "} {
			checkFault(t, ahead+x.wrong, x.code, len(ahead))
		}
	}
}

// P2.1, rule 3.

func TestOpenBrackets(t *testing.T) {
	for _, b := range []struct{ open, closing string }{{"(", ")"}, {"[", "]"}} {
		most := strings.Repeat(b.open, 498)
		checkTaken(t, head+most+"a"+strings.Repeat(b.closing, 498)+";")
	}
	round := strings.Repeat("(", api.MaxNest)
	checkTaken(t, head+round+"a"+strings.Repeat(")", api.MaxNest)+";")
	checkTaken(t, head+round+"a"+strings.Repeat(")", api.MaxNest)+" "+round+"a"+strings.Repeat(")", api.MaxNest)+";")
	for _, one := range []string{"(", "[", "{"} {
		full := head + strings.Repeat(one, api.MaxNest)
		for _, next := range []string{"(", "[", "{"} {
			checkFault(t, full+next, api.ErrNest, len(full))
			for _, closing := range []string{")", "]", "}"} {
				checkFault(t, full+closing+next+next, api.ErrNest, len(full)+2)
			}
		}
	}
	// Those that close when none is open count for nothing, and all else that is wrong comes behind.
	checkFault(t, ")]} } "+round+"(", api.ErrNest, 6+api.MaxNest)
	checkFault(t, ")]} } "+round, api.ErrSyntax, 0)
	checkFault(t, "f = ; module "+round+" (", api.ErrNest, 13+api.MaxNest+1)
	// Brackets in strings and comments are none.
	checkFault(t, "\"(\" '(' {- ( -} "+round, api.ErrSyntax, 0)
	checkFault(t, round+" \")\" ')' {- ) -} (", api.ErrNest, api.MaxNest+17)
}

// P2.1, rule 5: of types.

// arrows is a type of 2 n + 1 nodes.
func arrows(n int) string { return strings.Repeat("a -> ", n) + "a" }

func TestGreatTypes(t *testing.T) {
	at := len("module M; ")
	for _, x := range []struct{ ahead, most, more, behind string }{
		{"f :: ", "[" + arrows(249) + "]", arrows(250), ""},
		{"f :: ", "T " + strings.Repeat("a ", 499), "T " + strings.Repeat("a ", 500), ""},
		{"f :: ", "(a, " + arrows(248) + ", (a))", "(a, " + arrows(249) + ")", ""},
		{"(+) :: ", "T ((" + arrows(249) + "))", "[[" + arrows(249) + "]]", ""},
		{"data T = C ", "[" + arrows(249) + "]", "(" + arrows(250) + ")", ""},
		{"data T = C a | D a ", "(T " + strings.Repeat("a ", 499) + ")", "(T " + strings.Repeat("() ", 500) + ")", " b | E"},
	} {
		checkTaken(t, "module M; "+x.ahead+x.most+x.behind+";")
		checkFault(t, "module M; "+x.ahead+x.more+x.behind+";", api.ErrBig, at)
	}
	// Each type is counted alone.
	field := "[" + arrows(249) + "]"
	checkTaken(t, "module M; data T = C "+field+" "+field+" | D "+field+"; f :: "+field+"; g :: "+field+";")
}

// P2.1, rule 5: of patterns and bodies.

func TestDeepTrees(t *testing.T) {
	at := len("module M; ")
	for _, x := range []struct {
		ahead, again, behind string
		most                 int
	}{
		{"f = ", "x ", "", 1000},
		{"f = \"", "a", "\"", 998},
		{"f = [[[", "a,", "a]]]", 993},
		{"f = ", "\\x -> ", "a", 999},
		{"f = ", "\\x -> ", "a + b", 998},
		{"f = ", "if a then b else ", "a", 999},
		{"f = a + ", "a + \\x -> ", "a", 499},
		{"f \"", "a", "\" = 1", 999},
		{"f (", "a : ", "a) = 1", 999},
		{"f a [a,", "a,", "a] b = 1", 997},
		{"f = \\[", "a, ", "a] -> 1", 997},
		{"f = let {g = ", "x ", "} in 1", 999},
		{"f = let {g = 1} in ", "x ", "", 999},
		{"f = let {g [", "x, ", "x] = 1} in 1", 997},
		{"f = case ", "x ", " of {x -> 1}", 999},
		{"f = case x of {x -> ", "x ", "}", 999},
		{"f = case x of {x -> 1; ", "x : ", "x -> 1}", 998},
		{"f = 1 + ", "x ", "", 999},
		{"f = (", "x ", "+)", 999},
		{"f = (+ ", "x ", ")", 999},
		{"f = (", "x ", ", x)", 998},
		{"f = (x, ", "x ", ")", 999},
		{"f = (", "x ", ", x, x)", 997},
	} {
		ahead := "module M; " + x.ahead
		checkTaken(t, ahead+strings.Repeat(x.again, x.most)+x.behind+";")
		checkFault(t, ahead+strings.Repeat(x.again, x.most+1)+x.behind+";", api.ErrNest, at)
	}
	ifs := func(n int) string { return strings.Repeat("if ", n) + "a" + strings.Repeat(" then b else c", n) }
	checkTaken(t, head+ifs(999)+";")
	checkFault(t, head+ifs(1000)+";", api.ErrNest, at)
	// Rows, tuples and lists side by side are not deep.
	checkTaken(t, head+"a"+strings.Repeat(" + a", 2000)+";")
	checkTaken(t, "module M; f"+strings.Repeat(" (C x)", 2000)+" = 1;")
	checkTaken(t, head+"let {"+strings.Repeat("x = 1;", 2000)+"} in case x of {"+strings.Repeat("x -> 1;", 2000)+"};")
}

// The order within rule 5, and behind rule 4.
func TestFirstDeclarationAbove(t *testing.T) {
	big, deep := arrows(250), strings.Repeat("x ", 1001)
	declarations := []struct {
		text string
		code api.Errno
	}{
		{"data T = C (" + big + ");", api.ErrBig}, {"f :: " + big + ";", api.ErrBig}, {"g = " + deep + ";", api.ErrNest}, {"(+) \"" + deep + "\" = 1;", api.ErrNest},
	}
	fine := "import N; \ninfixl 1 +; data U = U; a :: b; c = d; "
	for _, one := range declarations {
		for _, other := range declarations {
			text := "module M; " + fine
			checkFault(t, text+one.text+other.text+" z = 1;", one.code, len(text))
			checkFault(t, text+one.text+other.text+" z = ;", api.ErrSyntax, len(text+one.text+other.text)+5)
			checkFault(t, text+one.text+other.text+" z", api.ErrSyntax, len(text+one.text+other.text)+2)
		}
	}
}

// What has no brackets may be nested as far as tokens go: it is told as too deep, by no panic and no end of the stack.
func TestVeryDeepTexts(t *testing.T) {
	at := len("module M; ")
	checkFault(t, head+strings.Repeat("\\x->", 6664)+"x;", api.ErrNest, at)
	checkFault(t, head+strings.Repeat("if ", 19995), api.ErrSyntax, len(head)+3*19995)
	checkFault(t, "module M; f :: "+arrows(9990)+";", api.ErrBig, at)
	checkFault(t, "module M; f ("+strings.Repeat("a:", 9900)+"a) = 1;", api.ErrNest, at)
	checkFault(t, head+"\""+strings.Repeat("a", 65000)+"\";", api.ErrNest, at)
	checkFault(t, "module M; f \""+strings.Repeat("a", 65000)+"\" = 1;", api.ErrNest, at)
	checkFault(t, head+strings.Repeat("x ", 19990)+";", api.ErrNest, at)
}
