package scope_test

import (
	"strings"
	"testing"

	"sloth/api"
	"sloth/scope"
)

// P3.1, rules 1 and 2.

func TestTooMany(t *testing.T) {
	var l []string
	for i := range api.MaxTexts {
		l = append(l, "module M"+string(rune('a'+i))+";")
	}
	checkGood(t, l)
	checkFault(t, append(l, "module X;"), api.Fault{Code: api.ErrLong, Text: -1, At: -1})
	checkFault(t, make([]string, 1000), api.Fault{Code: api.ErrLong, Text: -1, At: -1})
}

func TestTooLong(t *testing.T) {
	full := "module M;" + strings.Repeat(" ", api.MaxText-9)
	checkGood(t, []string{full})
	checkGood(t, []string{"module N;", full})
	long := full + "\n"
	checkFault(t, []string{long}, api.Fault{Code: api.ErrLong, Text: 0, At: -1})
	checkFault(t, []string{"module N;", "?", long, long}, api.Fault{Code: api.ErrLong, Text: 2, At: -1})
	checkFault(t, append(make([]string, api.MaxTexts), long), api.Fault{Code: api.ErrLong, Text: -1, At: -1})
}

func TestSyntaxFaults(t *testing.T) {
	const good = "module M;"
	for _, x := range []struct {
		text string
		want api.Fault
	}{
		{"", api.Fault{Code: api.ErrSyntax, At: 0}},
		{"module m;", api.Fault{Code: api.ErrSyntax, At: 7}},
		{"module X; f = ;", api.Fault{Code: api.ErrSyntax, At: 14}},
		{"module X; 007", api.Fault{Code: api.ErrLexNumber, At: 10}},
		{"module X; {-", api.Fault{Code: api.ErrLexComment, At: 10}},
		{"module X; \"", api.Fault{Code: api.ErrLexQuote, At: 10}},
		{"module X; :+", api.Fault{Code: api.ErrLexOp, At: 10}},
		{"module X;\x00", api.Fault{Code: api.ErrLexByte, At: 9}},
		{"module X;" + strings.Repeat(";", api.MaxTokens), api.Fault{Code: api.ErrBig, At: 9 + api.MaxTokens - 3}},
		{"module X; f = " + strings.Repeat("(", api.MaxNest+1), api.Fault{Code: api.ErrNest, At: 14 + api.MaxNest}},
		{"module X; f :: " + strings.Repeat("a -> ", api.MaxType) + "a;", api.Fault{Code: api.ErrBig, At: 10}},
	} {
		checkFault(t, []string{x.text}, x.want)
		x.want.Text = 1
		checkFault(t, []string{good, x.text, good, "?"}, x.want)
		x.want.Text = 2
		checkFault(t, []string{good, good, x.text}, x.want)
	}
}

// Rules 3 and 4.

func TestModules(t *testing.T) {
	for _, x := range []struct {
		texts []string
		code  api.Errno
		text  int
		name  string
	}{
		{[]string{"module A;", "module A;"}, api.ErrScopeModule, 1, "A"},
		{[]string{"module A;", "module B;", "module C;", "module B;", "module A;"}, api.ErrScopeModule, 3, "B"},
		{[]string{"module A; import A;"}, api.ErrScopeModule, 0, "A"},
		{[]string{"module A; import A (); import A;"}, api.ErrScopeModule, 0, "A"},
		{[]string{"module A; import B;"}, api.ErrScopeModule, 0, "B"},
		{[]string{"module A; import B (f); import B;"}, api.ErrScopeModule, 0, "B"},
		{[]string{"module B;", "module A; import B; import C;"}, api.ErrScopeModule, 1, "C"},
		{[]string{"module B;", "module A; import B; import B;"}, api.ErrScopeTwice, 1, "B"},
		{[]string{"module B;", "module C;", "module A; import B (); import C; import B ();"}, api.ErrScopeTwice, 2, "B"},
		{[]string{"module B; import A; import X; import A;", "module A;"}, api.ErrScopeModule, 0, "X"},
		{[]string{"module B; import A; import A; import X;", "module A;"}, api.ErrScopeTwice, 0, "A"},
		{[]string{"module C; import B; import B;", "module B; import X;"}, api.ErrScopeTwice, 0, "B"},
		{[]string{"module B; import X;", "module C; import B; import B;"}, api.ErrScopeModule, 0, "X"},
	} {
		checkBad(t, x.texts, x.code, x.text, x.name)
	}
}

// Rule 5: the first one that comes back to itself, not one that leads to a ring.
func TestRings(t *testing.T) {
	for _, x := range []struct {
		imports string // of each module the names of those that it imports
		text    int
	}{
		{"A:B B:A", 0},
		{"B:A A:B", 0},
		{"A:B B:C C:B", 1},
		{"X:A A:B B:C C:A", 1},
		{"X:AB B:C A: C:B", 1},
		{"D: C:D B:CD A:BCE E:F F:A", 3},
		{"A:C B:A C:B", 0},
		{"A:B B:C C:D D:E E:F F:G G:H H:I I:J J:K K:L L:M M:N N:O O:P P:O", 14},
		{"A:B B:C C:D D:E E:F F:G G:H H:I I:J J:K K:L L:M M:N N:O O:P P:A", 0},
		{"P:O O:N N:M M:L L:K K:J J:I I:H H:G G:F F:E E:D D:C C:B B:A A:D", 12},
	} {
		l, names := graph(x.imports)
		checkBad(t, l, api.ErrScopeCycle, x.text, names[x.text])
	}
}

// graph makes texts of modules that import one another.
func graph(imports string) (l, names []string) {
	for _, m := range strings.Fields(imports) {
		text := "module " + m[:1] + ";"
		for _, i := range m[2:] {
			text += " import " + string(i) + ";"
		}
		l = append(l, text)
		names = append(names, m[:1])
	}
	return l, names
}

// The order: always the first one whose imports are all placed.
func TestOrder(t *testing.T) {
	for _, x := range []struct{ imports, want string }{
		{"A: B: C:", "ABC"},
		{"A:B B:C C:", "CBA"},
		{"A:C B: C:", "BCA"},
		{"A:D B: C:B D:", "BCDA"},
		{"A:B C:B D:A B: E:", "BACDE"},
		{"A:B C: D: B:C", "CDBA"},
		{"A:BC B:D C:D D: E:A", "DBCAE"},
		{"A:CB B:D C:D D: E:A", "DBCAE"},
		{"Z:Y Y: X:Z W:XY", "YZXW"},
		{"A:P B:O C: D:C P:D O:A", "CDPAOB"},
		{"A:B B:C C:D D:E E:F F:G G:H H:I I:J J:K K:L L:M M:N N:O O:P P:", "PONMLKJIHGFEDCBA"},
	} {
		l, names := graph(x.imports)
		modules, _, err := scope.Bind(l)
		got := ""
		for _, m := range modules {
			got += m.Name
			if names[m.Text] != m.Name {
				t.Errorf("%s: Text %d of %s", x.imports, m.Text, m.Name)
			}
		}
		if err != nil || got != x.want {
			t.Errorf("%s: %s, %v, want %s", x.imports, got, err, x.want)
		}
	}
}

// The order of the rules over the texts: of all sets of faults that lie each in a text of its own, the one of the least rule is told, though it stands last.
func TestOrderOfRules(t *testing.T) {
	const good = "module G;"
	faults := []struct {
		texts []string
		want  api.Fault
	}{
		{[]string{"module A;" + strings.Repeat(" ", api.MaxText)}, api.Fault{Code: api.ErrLong, At: -1}},
		{[]string{"module B"}, api.Fault{Code: api.ErrSyntax, At: 8}},
		{[]string{"module G;"}, api.Fault{Code: api.ErrScopeModule, At: -1, Name: "G"}},
		{[]string{"module D; import G; import G;"}, api.Fault{Code: api.ErrScopeTwice, At: -1, Name: "G"}},
		{[]string{"module E; import F;", "module F; import E;"}, api.Fault{Code: api.ErrScopeCycle, At: -1, Name: "E"}},
		{[]string{"module H; import G (x);"}, api.Fault{Code: api.ErrScopeName, At: -1, Name: "x"}},
	}
	for set := 1; set < 1<<len(faults); set++ {
		l := []string{good}
		var want api.Fault
		for i := len(faults) - 1; i >= 0; i-- {
			if set>>i&1 == 1 {
				want = faults[i].want
				want.Text = len(l)
				l = append(l, faults[i].texts...)
			}
		}
		checkFault(t, l, want)
	}
}

// The order of the rounds: of all sets of faults within a module, however the declarations stand, that of the first round is told.
func TestOrderOfRounds(t *testing.T) {
	rounds := []struct {
		text string
		code api.Errno
		name string
	}{
		{"import L (nope);", api.ErrScopeName, "nope"},
		{"data Int = X;", api.ErrScopeTwice, "Int"},
		{"seq = 1;", api.ErrScopeTwice, "seq"},
		{"infix 1 *;", api.ErrScopeFix, "*"},
		{"s :: Int;", api.ErrScopeName, "s"},
		{"data E = E Nope;", api.ErrScopeName, "E"},
		{"b = nope;", api.ErrScopeName, "b"},
	}
	for set := 1; set < 1<<len(rounds); set++ {
		up, down := "", ""
		first := -1
		for i, r := range rounds {
			if set>>i&1 == 0 {
				continue
			}
			if first < 0 {
				first = i
			}
			up += r.text
			if i > 0 {
				down = r.text + down
			}
		}
		if set&1 == 1 { // imports stand first in any case
			down = rounds[0].text + down
		}
		for _, text := range []string{up, down} {
			checkBad(t, []string{"module M;" + text, "module L;"}, rounds[first].code, 0, rounds[first].name)
		}
	}
}

// Modules are gone through in their order, each whole ahead of the next: a fault of a late round in an early module comes first.
func TestModuleByModule(t *testing.T) {
	early := []string{"import L (nope);", "data Int = X;", "seq = 1;", "infix 1 *;", "s :: Int;", "data E = E Nope;", "b = nope;"}
	for _, text := range early {
		checkBad(t, []string{"module M; import K;" + text, "module L;", "module K; k = nope;"}, api.ErrScopeName, 2, "k")
		checkBad(t, []string{"module L;", "module M; k = nope;", "module K; import L;" + strings.TrimPrefix(text, "import L (nope);")}, api.ErrScopeName, 1, "k")
	}
}
