package lex_test

import (
	"slices"
	"strconv"
	"strings"
	"testing"

	"sloth/api"
	"sloth/lex"
)

// P1.3.

func checkPrint(t *testing.T, l []api.Token, want string, code api.Errno) {
	t.Helper()
	if got, e := lex.Print(l); got != want || e != code {
		t.Errorf("Print(%s) = %s, %v; want %s, %v", short(l), short(got), e, short(want), code)
	}
}

func TestPrintOrdinary(t *testing.T) {
	checkPrint(t, nil, "", api.OK)
	checkPrint(t, []api.Token{}, "", api.OK)
	checkPrint(t, []api.Token{num(api.TokChar, 39, 0), num(api.TokChar, 34, 0), tok(api.TokString, "\"'\x07", 0), num(api.TokInt, 15, 0), tok(api.TokOp, "-", 0)}, `'\'' '"' "\"'\007" 15 -`, api.OK)
	checkPrint(t, []api.Token{tok(1, "a", 9), tok(2, "A", 9), tok(3, "M.a", -9), tok(4, "M.A", 9), tok(5, "+", 9), num(6, 7, 9), num(7, 55, 9), tok(8, "7", 9), tok(9, "_", 9), tok(10, "in", 9), tok(11, "=", 9)}, `a A M.a M.A + 7 '7' "7" _ in =`, api.OK)
	checkPrint(t, []api.Token{tok(api.TokUpper, "M", 0), tok(api.TokOp, ".", 0), tok(api.TokLower, "x", 0), tok(api.TokSpecial, "{", 0), tok(api.TokOp, "-", 0), tok(api.TokOp, "-", 0), tok(api.TokSpecial, "}", 0)}, "M . x { - - }", api.OK)
	checkPrint(t, []api.Token{num(api.TokInt, 0, 0), num(api.TokInt, api.MaxInt, 0), num(api.TokChar, 0, 0), num(api.TokChar, 255, 0), tok(api.TokString, "", 0)}, `0 4611686018427387903 '\000' '\255' ""`, api.OK)
}

func TestPrintEachByte(t *testing.T) {
	for b := range 256 {
		one := string([]byte{byte(b)})
		inChar, inString := one, one
		switch {
		case b == 10:
			inChar, inString = `\n`, `\n`
		case b == 9:
			inChar, inString = `\t`, `\t`
		case b == '\\':
			inChar, inString = `\\`, `\\`
		case b == '\'':
			inChar = `\'`
		case b == '"':
			inString = `\"`
		case b < 32 || b > 126:
			inChar = `\` + strconv.Itoa(1000 + b)[1:]
			inString = inChar
		}
		checkPrint(t, []api.Token{num(api.TokChar, b, 0)}, "'"+inChar+"'", api.OK)
		checkPrint(t, []api.Token{tok(api.TokString, one+one, 0)}, `"`+inString+inString+`"`, api.OK)
	}
}

// spelt tells for each kind with a Text which texts are of its form; each is of one kind alone.
func spelt() [][]string {
	return [][]string{
		api.TokLower:   {"a", "z", "aZ9_'", "cases", "in'", "where", strings.Repeat("q", 5000)},
		api.TokUpper:   {"A", "Z", "Az9_'", "Case"},
		api.TokQLower:  {"M.x", "M'.in_", "Mod_1.x'"},
		api.TokQUpper:  {"M.X", "Mod_1.X'", "M.Case"},
		api.TokOp:      {"+", "-", ":", "==", "||", "->>", "-->", "|--", "<-", ".", "!#$%&*+./<=>?@^|~:-", "=:"},
		api.TokSpecial: {"(", ")", "[", "]", "{", "}", ",", ";", "`", "\\", "_"},
		api.TokWord:    {"module", "import", "data", "infixl", "infixr", "infix", "let", "in", "case", "of", "if", "then", "else"},
		api.TokSign:    {"=", "|", "->", "::"},
		12:             nil,
	}
}

// nowhere are texts of no kind but that of strings.
var nowhere = []string{"", " ", "a ", " a", "a b", "a.b", "a+", "+a", "'a", "_a", "__", "M.", ".M", "M.x.y", "M.N.x", "M.case", "M.+", "M._", "M..x", "M.1", "M x", "m.X", "--", "---", "----------", ":+", ":::", ":-", "::=", "+ +", "+{", "((", "()", "{-", "1", "1a", "'", "\"", "\x80", "a\x80", "M.\x80", "A\x00", "+\n"}

func TestPrintKnowsForms(t *testing.T) {
	for kind, texts := range spelt() {
		for _, text := range texts {
			for other := range spelt() {
				switch l := []api.Token{tok(other, text, 0)}; other {
				case kind:
					checkPrint(t, l, text, api.OK)
				case api.TokString:
					checkPrint(t, l, `"`+strings.ReplaceAll(text, `\`, `\\`)+`"`, api.OK)
				default:
					checkPrint(t, l, "", api.ErrArg)
				}
			}
			checkPrint(t, []api.Token{{Kind: kind, Text: text, Num: 1}}, "", api.ErrArg)
			checkPrint(t, []api.Token{{Kind: kind, Text: text, Num: -1}}, "", api.ErrArg)
		}
	}
	for _, text := range nowhere {
		for kind := -1; kind <= 12; kind++ {
			if text == "" && (kind == api.TokInt || kind == api.TokChar) || kind == api.TokString {
				continue
			}
			checkPrint(t, []api.Token{tok(kind, text, 0)}, "", api.ErrArg)
		}
		if _, e := lex.Print([]api.Token{tok(api.TokString, text, 0)}); e != api.OK {
			t.Errorf("the string %q: %v", text, e)
		}
	}
}

func TestPrintKnowsNumbers(t *testing.T) {
	for _, bad := range []api.Token{
		num(api.TokInt, -1, 0), num(api.TokInt, api.MaxInt+1, 0), num(api.TokInt, api.MinInt, 0), {Kind: api.TokInt, Text: "1", Num: 1},
		num(api.TokChar, -1, 0), num(api.TokChar, 256, 0), {Kind: api.TokChar, Text: "a", Num: 97},
		{Kind: api.TokString, Text: "a", Num: 1}, {Kind: api.TokString, Num: -1},
		{}, {Num: 1}, {Kind: -1}, {Kind: 12}, {Kind: 12, Num: 1},
	} {
		checkPrint(t, []api.Token{bad}, "", api.ErrArg)
		checkPrint(t, []api.Token{tok(api.TokLower, "a", 0), bad}, "", api.ErrArg)
	}
}

func TestPrintLimits(t *testing.T) {
	comma, wrong := tok(api.TokSpecial, ",", 0), api.Token{}
	checkPrint(t, slices.Repeat([]api.Token{comma}, api.MaxTokens), strings.Repeat(", ", api.MaxTokens)[:2*api.MaxTokens-1], api.OK)
	checkPrint(t, slices.Repeat([]api.Token{comma}, api.MaxTokens+1), "", api.ErrLong)
	checkPrint(t, slices.Repeat([]api.Token{wrong}, api.MaxTokens+1), "", api.ErrLong)

	fit, long := strings.Repeat("a", api.MaxText), strings.Repeat("a", api.MaxText+1)
	checkPrint(t, []api.Token{tok(api.TokLower, fit, 0)}, fit, api.OK)
	checkPrint(t, []api.Token{tok(api.TokLower, long, 0)}, "", api.ErrBig)
	checkPrint(t, []api.Token{tok(api.TokLower, long, 0), wrong}, "", api.ErrArg)
	checkPrint(t, []api.Token{tok(api.TokLower, long+"+", 0)}, "", api.ErrArg)
	checkPrint(t, []api.Token{tok(api.TokLower, fit, 0), comma}, "", api.ErrBig)
	checkPrint(t, []api.Token{tok(api.TokLower, fit[2:], 0), comma}, fit[2:]+" ,", api.OK)
	checkPrint(t, []api.Token{comma, tok(api.TokLower, fit[2:], 0)}, ", "+fit[2:], api.OK)
	checkPrint(t, []api.Token{comma, tok(api.TokLower, fit[1:], 0)}, "", api.ErrBig)
	checkPrint(t, []api.Token{tok(api.TokString, fit[2:], 0)}, `"`+fit[2:]+`"`, api.OK)
	checkPrint(t, []api.Token{tok(api.TokString, fit[1:], 0)}, "", api.ErrBig)
	checkPrint(t, []api.Token{tok(api.TokString, strings.Repeat("\x01", 16383), 0)}, `"`+strings.Repeat(`\001`, 16383)+`"`, api.OK)
	checkPrint(t, []api.Token{tok(api.TokString, strings.Repeat("\x01", 16384), 0)}, "", api.ErrBig)
	checkPrint(t, slices.Repeat([]api.Token{tok(api.TokString, strings.Repeat("\x01", 1<<20), 0)}, 1000), "", api.ErrBig)
}

func TestPrintChangesNothing(t *testing.T) {
	l := []api.Token{tok(api.TokLower, "a", 3), num(api.TokInt, 4, 5), tok(api.TokString, "b", 6)}
	given := slices.Clone(l)
	lex.Print(l[:2])
	if !slices.Equal(l, given) {
		t.Errorf("%v, want %v", l, given)
	}
}
