package syntax_test

import (
	"math/rand"
	"regexp"
	"strings"
	"testing"

	"sloth/api"
	"sloth/lex"
	"sloth/syntax"
)

// grammarText is the chapter's grammar. To say the rule 'Longest' in the grammar itself, operands are told apart: an open one ends with an expr, which takes every operator behind it, so it stands only at a row's end.
const grammarText = `
module  := 'module' Upper ';' { import ';' } { decl ';' }
import  := 'import' Upper [ '(' [ item { ',' item } ] ')' ]
item    := Lower | Upper | '(' Op ')'
decl    := 'data' Upper { Lower } '=' con { '|' con }
         | ('infixl' | 'infixr' | 'infix') Digit fixed { ',' fixed }
         | name '::' type
         | clause
fixed   := Op | backquote Lower backquote
name    := Lower | '(' Op ')'
con     := Upper { atype }
type    := btype [ '->' type ]
btype   := (Upper | QUpper) { atype } | atype
atype   := Lower | Upper | QUpper | '[' type ']' | '(' ')' | '(' type ')' | '(' type ',' type [ ',' type ] ')'
clause  := name { apat } '=' expr
pat     := cpat [ ':' pat ]
cpat    := (Upper | QUpper) { apat } | apat
apat    := Lower | '_' | Int | Char | String | Upper | QUpper | '(' ')' | '(' pat ')'
         | '(' pat ',' pat [ ',' pat ] ')' | '[' [ pat { ',' pat } ] ']'
expr    := { closed op } operand
operand := closed | open
op      := Op | ':' | backquote (Lower | QLower | Upper | QUpper) backquote
open    := '\' apat { apat } '->' expr
         | 'let' '{' clause { ';' clause } [ ';' ] '}' 'in' expr
         | 'if' expr 'then' expr 'else' expr
closed  := 'case' expr 'of' '{' alt { ';' alt } [ ';' ] '}'
         | atom { atom }
alt     := pat '->' expr
atom    := Lower | QLower | Upper | QUpper | Int | Char | String | '(' ')'
         | '(' (Op | ':') ')'
         | '(' expr ')' | '(' expr ',' expr [ ',' expr ] ')'
         | '(' op { closed op } operand ')'
         | '(' { closed op } closed op ')'
         | '[' [ expr { ',' expr } ] ']'
`

// grammar: the rows of each symbol; a symbol without rows is a token's.
type grammar map[string][][]string

// grammarReader makes rows of the notation: what { }, [ ] and ( ) hold gets a symbol of its own.
type grammarReader struct {
	words []string
	rows  grammar
	made  int
}

func readGrammar() grammar {
	g := &grammarReader{rows: grammar{}}
	for _, rule := range regexp.MustCompile(`(?m)^\w+ +:=`).FindAllStringIndex(grammarText, -1) {
		name := strings.Fields(grammarText[rule[0]:rule[1]])[0]
		body := grammarText[rule[1]:]
		if next := regexp.MustCompile(`(?m)^\w+ +:=`).FindStringIndex(body); next != nil {
			body = body[:next[0]]
		}
		g.words = regexp.MustCompile(`'[^']+'|\w+|\S`).FindAllString(body, -1)
		g.choice(name)
	}
	return g.rows
}

// choice reads rows up to a bracket that closes, or the end.
func (g *grammarReader) choice(name string) {
	row := []string{}
	for len(g.words) > 0 {
		word := g.words[0]
		g.words = g.words[1:]
		switch word {
		case "|":
			g.rows[name] = append(g.rows[name], row)
			row = []string{}
		case "{", "[", "(":
			g.made++
			inner := name + "." + string(rune('a'+g.made%26)) + string(rune('a'+g.made/26))
			g.choice(inner)
			switch word {
			case "{":
				for i := range g.rows[inner] {
					g.rows[inner][i] = append(g.rows[inner][i], inner)
				}
				fallthrough
			case "[":
				g.rows[inner] = append(g.rows[inner], []string{})
			}
			row = append(row, inner)
		case "}", "]", ")":
			g.rows[name] = append(g.rows[name], row)
			return
		default:
			row = append(row, word)
		}
	}
	g.rows[name] = append(g.rows[name], row)
}

// fits tells whether a token is one that a symbol stands for.
func fits(symbol string, t api.Token) bool {
	switch symbol {
	case "Lower":
		return t.Kind == api.TokLower
	case "Upper":
		return t.Kind == api.TokUpper
	case "QLower":
		return t.Kind == api.TokQLower
	case "QUpper":
		return t.Kind == api.TokQUpper
	case "Int":
		return t.Kind == api.TokInt
	case "Digit":
		return t.Kind == api.TokInt && t.Num <= 9
	case "Char":
		return t.Kind == api.TokChar
	case "String":
		return t.Kind == api.TokString
	case "Op":
		return t.Kind == api.TokOp && t.Text != ":"
	case "backquote":
		symbol = "'`'"
	}
	return t.Kind != api.TokString && symbol == "'"+t.Text+"'"
}

// state: a row, how much of it was read, and where it began.
type state struct{ row, done, from int }

// set: the states after so many tokens, each once, in the order in which they were found.
type set struct {
	list []state
	has  map[state]bool
}

func (s *set) add(x state) {
	if !s.has[x] {
		s.has[x] = true
		s.list = append(s.list, x)
	}
}

// earley knows, for each number of tokens read, every row that may have been begun there or ahead, by which way ever.
type earley struct {
	heads []string // the symbol of each row
	rows  [][]string
	of    map[string][]int // the rows of a symbol
	empty map[string]bool  // may a symbol be no token at all
	sets  []*set
}

func newEarley(g grammar) *earley {
	e := &earley{of: map[string][]int{}, empty: map[string]bool{}}
	for symbol, rows := range g {
		for _, row := range rows {
			e.of[symbol] = append(e.of[symbol], len(e.rows))
			e.heads = append(e.heads, symbol)
			e.rows = append(e.rows, row)
			if len(row) == 0 { // nothing else is empty in this grammar
				e.empty[symbol] = true
			}
		}
	}
	first := &set{has: map[state]bool{}}
	first.add(state{row: e.of["module"][0]})
	e.fill(first)
	return e
}

// fill adds to a set all that follows from it without a token.
func (e *earley) fill(now *set) {
	at := len(e.sets)
	e.sets = append(e.sets, now)
	for i := 0; i < len(now.list); i++ {
		s := now.list[i]
		if s.done == len(e.rows[s.row]) {
			for _, outer := range e.sets[s.from].list {
				if r := e.rows[outer.row]; outer.done < len(r) && r[outer.done] == e.heads[s.row] {
					outer.done++
					now.add(outer)
				}
			}
			continue
		}
		symbol := e.rows[s.row][s.done]
		for _, row := range e.of[symbol] {
			now.add(state{row: row, from: at})
		}
		if e.empty[symbol] {
			s.done++
			now.add(s)
		}
	}
}

// read takes one more token, and tells whether those up to it begin some module. If not, nothing has changed.
func (e *earley) read(t api.Token) bool {
	next := &set{has: map[state]bool{}}
	for _, s := range e.sets[len(e.sets)-1].list {
		if row := e.rows[s.row]; s.done < len(row) && e.of[row[s.done]] == nil && fits(row[s.done], t) {
			s.done++
			next.add(s)
		}
	}
	if len(next.list) == 0 {
		return false
	}
	e.fill(next)
	return true
}

// whole tells whether what was read is a module.
func (e *earley) whole() bool {
	row := e.of["module"][0]
	return e.sets[len(e.sets)-1].has[state{row: row, done: len(e.rows[row])}]
}

// misfit tells the place that rule 4 of P2.1 asks for, or that the text is a module.
func misfit(g grammar, text string, tokens []api.Token) (int, bool) {
	e := newEarley(g)
	for _, token := range tokens {
		if !e.read(token) {
			return token.At, false
		}
	}
	return len(text), e.whole()
}

func checkGrammar(t *testing.T, g grammar, text string) {
	t.Helper()
	tokens, err := lex.Lex(text)
	if err != nil {
		t.Fatalf("Lex(%s): %v", short(text), err)
	}
	at, whole := misfit(g, text, tokens)
	checkAgrees(t, text, at, whole)
}

func checkAgrees(t *testing.T, text string, at int, whole bool) {
	t.Helper()
	_, err := syntax.Parse(text)
	if fault, _ := api.Seen(err); whole != (err == nil) || !whole && fault != (api.Fault{Code: api.ErrSyntax, At: at}) {
		t.Fatalf("Parse(%s): %v; by the grammar: a module: %v, else its fault is at %d", short(text), err, whole, at)
	}
}

func TestGrammarIsRead(t *testing.T) {
	g := readGrammar()
	for _, name := range strings.Fields("module import item decl fixed name con type btype atype clause pat cpat apat expr operand op open closed alt atom") {
		if len(g[name]) == 0 {
			t.Error("no row of", name)
		}
	}
	for text, want := range map[string]int{"module M;": -1, head + "(\\x -> x +);": 24, head + "(a b +);": -1, head + "(+ a b);": -1, head + "let {a = b;} in c + d;": -1, "module M; infixl 1 +, `f`;": -1, "module M; infixl 10 +;": 17} {
		tokens, _ := lex.Lex(text)
		at, whole := misfit(g, text, tokens)
		if whole != (want < 0) || !whole && at != want {
			t.Errorf("%q: %d %v", text, at, whole)
		}
	}
}

// marks are a token of each sort that the grammar tells apart.
var marks = strings.Fields("a A M.a M.A + : 1 10 'c' \"s\" ( ) [ ] { } , ; ` \\ _ = | -> :: module import data infixl infixr infix let in case of if then else")

// TestAllShortTails: behind each of some beginnings, every row of up to so many tokens whose own beginnings may stand there, and each token behind these.
func TestAllShortTails(t *testing.T) {
	t.Parallel()
	g := readGrammar()
	for _, x := range []struct {
		begin string
		most  int
	}{
		{"", 5}, {"module M ;", 3}, {"module M ; import N", 5}, {"module M ; data T", 4}, {"module M ; data T = A", 3}, {"module M ; infix", 6}, {"module M ; f", 3}, {"module M ; f ::", 4},
		{"module M ; f =", 3}, {"module M ; f = (", 3}, {"module M ; f = ( a", 3}, {"module M ; f = ( a , b", 3}, {"module M ; f = ( + a", 3}, {"module M ; f = ( \\ x -> a", 3}, {"module M ; f = [", 3}, {"module M ; f = let {", 3}, {"module M ; f = let { g = a", 3},
		{"module M ; f = case a of {", 3}, {"module M ; f = case a of { b -> c", 3}, {"module M ; f = if a", 3}, {"module M ; f = a `", 4}, {"module M ; f (", 3}, {"module M ; f [", 3}, {"module M ; f :: (", 4}, {"module M ; f :: ( a , b", 4},
	} {
		e := newEarley(g)
		tokens, _ := lex.Lex(x.begin)
		for _, token := range tokens {
			if !e.read(token) {
				t.Fatal(x.begin)
			}
		}
		tails(t, e, x.begin, x.most)
	}
}

func tails(t *testing.T, e *earley, text string, most int) {
	for _, mark := range marks {
		longer := text + " " + mark
		token, _ := lex.Lex(mark)
		if !e.read(token[0]) {
			checkAgrees(t, longer, len(text)+1, false)
			continue
		}
		checkAgrees(t, longer, len(longer), e.whole())
		if most > 1 {
			tails(t, e, longer, most-1)
		}
		e.sets = e.sets[:len(e.sets)-1]
	}
}

// grower makes tokens of a symbol at random.
type grower struct {
	*rand.Rand
	rows  grammar
	least map[string]int // how many tokens a symbol needs
}

func newGrower(r *rand.Rand, g grammar) grower {
	least := map[string]int{}
	for symbol := range g {
		least[symbol] = 1000
	}
	x := grower{r, g, least}
	for range 30 {
		for symbol, rows := range g {
			for _, row := range rows {
				least[symbol] = min(least[symbol], x.need(row))
			}
		}
	}
	return x
}

func (x grower) need(row []string) int {
	n := 0
	for _, symbol := range row {
		if x.rows[symbol] == nil {
			n++
		}
		n += x.least[symbol]
	}
	return n
}

// grow takes a row that needs least where no room is left.
func (x grower) grow(symbol string, room int, out []string) []string {
	rows := x.rows[symbol]
	if rows == nil {
		return append(out, spellMark(x.Rand, symbol))
	}
	row := rows[x.Intn(len(rows))]
	if room <= 0 {
		for _, other := range rows {
			if x.need(other) < x.need(row) {
				row = other
			}
		}
	}
	for _, part := range row {
		out = x.grow(part, room-1-len(out)/20, out)
	}
	return out
}

func spellMark(r *rand.Rand, symbol string) string {
	pick := func(l ...string) string { return l[r.Intn(len(l))] }
	switch symbol {
	case "Lower":
		return pick("a", "b", "x'", "lets")
	case "Upper":
		return pick("A", "B_")
	case "QLower":
		return pick("M.a", "N.x")
	case "QUpper":
		return pick("M.A", "N.B")
	case "Int":
		return pick("0", "12", "0xff")
	case "Digit":
		return pick("0", "9")
	case "Char":
		return pick("'a'", "'\\''")
	case "String":
		return pick("\"\"", "\"(\"", "\"ab\"")
	case "Op":
		return pick("+", "-", ".", "-->")
	case "backquote":
		return "`"
	}
	return strings.Trim(symbol, "'")
}

// TestGrownTexts: modules grown from the grammar, and the same with something wrong in them.
func TestGrownTexts(t *testing.T) {
	t.Parallel()
	g := readGrammar()
	r := rand.New(rand.NewSource(2))
	x := newGrower(r, g)
	for i := range 900 {
		var l []string
		switch i % 3 {
		case 0:
			l = x.grow("module", 6+r.Intn(12), nil)
		case 1:
			l = append(x.grow("expr", 6+r.Intn(12), strings.Fields("module M ; f =")), ";")
		case 2:
			l = append(x.grow("clause", 6+r.Intn(12), strings.Fields("module M ;")), ";")
		}
		if len(l) > 100 {
			continue
		}
		checkGrammar(t, g, strings.Join(l, " "))
		for range 1 + r.Intn(2) {
			at := r.Intn(len(l))
			switch r.Intn(4) {
			case 0:
				l = append(l[:at:at], l[at+1:]...)
			case 1:
				l = append(l[:at:at], append([]string{marks[r.Intn(len(marks))]}, l[at:]...)...)
			case 2:
				l = append([]string{}, l...)
				l[at] = marks[r.Intn(len(marks))]
			case 3:
				l = l[:at:at]
			}
			if len(l) == 0 {
				break
			}
			checkGrammar(t, g, strings.Join(l, " "))
		}
	}
}
