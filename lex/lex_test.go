package lex_test

import (
	"fmt"
	"slices"
	"strconv"
	"strings"
	"testing"
	"unsafe"

	"sloth/api"
	"sloth/lex"
)

// tok makes a token whose kind has a Text, num one whose kind has a Num.
func tok(kind int, text string, at int) api.Token {
	return api.Token{Kind: kind, Text: text, At: at}
}

func num(kind, n, at int) api.Token { return api.Token{Kind: kind, Num: n, At: at} }

// short keeps what a failing test tells readable where its input is at a limit.
func short(x any) string {
	s := fmt.Sprintf("%q", fmt.Sprint(x))
	if len(s) > 200 {
		return s[:200] + ".."
	}
	return s
}

type lexCase struct {
	text string
	want []api.Token
}

func checkTokens(t *testing.T, cases []lexCase) {
	t.Helper()
	for _, c := range cases {
		got, err := lex.Lex(c.text)
		if err != nil || !slices.Equal(got, c.want) {
			t.Errorf("Lex(%s) = %s, %v; want %s", short(c.text), short(got), err, short(c.want))
		}
	}
}

type faultCase struct {
	text string
	code api.Errno
	at   int
}

func checkFaults(t *testing.T, cases []faultCase) {
	t.Helper()
	for _, c := range cases {
		got, err := lex.Lex(c.text)
		fault, ok := api.Seen(err)
		want := api.Fault{Code: c.code, At: c.at}
		if err == nil || !ok || fault != want || len(got) != 0 {
			t.Errorf("Lex(%s) = %d tokens, %v; want none, %v", short(c.text), len(got), err, &want)
		}
	}
}

// P1.1: the rows of the table, from above.

func TestBlanksAreNothing(t *testing.T) {
	checkTokens(t, []lexCase{
		{"", nil},
		{" \t\n\r", nil},
		{" a\tb\nc\rd ", []api.Token{tok(api.TokLower, "a", 1), tok(api.TokLower, "b", 3), tok(api.TokLower, "c", 5), tok(api.TokLower, "d", 7)}},
	})
	checkFaults(t, []faultCase{{" \v", api.ErrLexByte, 1}, {"\f", api.ErrLexByte, 0}, {"a\x00", api.ErrLexByte, 1}})
}

func TestBlockComments(t *testing.T) {
	checkTokens(t, []lexCase{
		{"{--}", nil},
		{"{- \x00\x80\xff ' \" 007 -- \n-}x", []api.Token{tok(api.TokLower, "x", 21)}},
		{"{-{-}-}-}1", []api.Token{num(api.TokInt, 1, 9)}},
		{"{-{--}-}1", []api.Token{num(api.TokInt, 1, 8)}},
		{"{---}1", []api.Token{num(api.TokInt, 1, 5)}},
		{"{-a{-b{-c-}d-}{-e-}-}x", []api.Token{tok(api.TokLower, "x", 21)}},
		{"a{-b-}c", []api.Token{tok(api.TokLower, "a", 0), tok(api.TokLower, "c", 6)}},
		{"+{-b-}-", []api.Token{tok(api.TokOp, "+", 0), tok(api.TokOp, "-", 6)}},
		{"-}", []api.Token{tok(api.TokOp, "-", 0), tok(api.TokSpecial, "}", 1)}},
		{"{--}-}", []api.Token{tok(api.TokOp, "-", 4), tok(api.TokSpecial, "}", 5)}},
		{"{ -}", []api.Token{tok(api.TokSpecial, "{", 0), tok(api.TokOp, "-", 2), tok(api.TokSpecial, "}", 3)}},
		{strings.Repeat("{-", api.MaxText/4) + strings.Repeat("-}", api.MaxText/4), nil},
	})
	checkFaults(t, []faultCase{
		{"{-", api.ErrLexComment, 0},
		{"{-}", api.ErrLexComment, 0},
		{"{-{-}", api.ErrLexComment, 0},
		{"{--}{-", api.ErrLexComment, 4},
		{"a {- b {- c -}", api.ErrLexComment, 2},
		{"{-{--}-", api.ErrLexComment, 0},
		{strings.Repeat("{-", api.MaxText/2), api.ErrLexComment, 0},
	})
}

func TestLowerNamesAndWords(t *testing.T) {
	checkTokens(t, []lexCase{
		{"a z aZ9_'' x", []api.Token{tok(api.TokLower, "a", 0), tok(api.TokLower, "z", 2), tok(api.TokLower, "aZ9_''", 4), tok(api.TokLower, "x", 11)}},
		{"case1 in' of_ ifA lets", []api.Token{tok(api.TokLower, "case1", 0), tok(api.TokLower, "in'", 6), tok(api.TokLower, "of_", 10), tok(api.TokLower, "ifA", 14), tok(api.TokLower, "lets", 18)}},
		{"case.x", []api.Token{tok(api.TokWord, "case", 0), tok(api.TokOp, ".", 4), tok(api.TokLower, "x", 5)}},
		{"a.b", []api.Token{tok(api.TokLower, "a", 0), tok(api.TokOp, ".", 1), tok(api.TokLower, "b", 2)}},
		{"where seq stop type", []api.Token{tok(api.TokLower, "where", 0), tok(api.TokLower, "seq", 6), tok(api.TokLower, "stop", 10), tok(api.TokLower, "type", 15)}},
	})
	for _, word := range reserved {
		checkTokens(t, []lexCase{
			{word, []api.Token{tok(api.TokWord, word, 0)}},
			{word + "0", []api.Token{tok(api.TokLower, word+"0", 0)}},
			{"M." + word, []api.Token{tok(api.TokUpper, "M", 0), tok(api.TokOp, ".", 1), tok(api.TokWord, word, 2)}},
			{"M." + word + "'", []api.Token{tok(api.TokQLower, "M."+word+"'", 0)}},
		})
	}
}

func TestUpperNames(t *testing.T) {
	checkTokens(t, []lexCase{
		{"A Z'_9z Case", []api.Token{tok(api.TokUpper, "A", 0), tok(api.TokUpper, "Z'_9z", 2), tok(api.TokUpper, "Case", 8)}},
		{"M.N.x M.case M.+", []api.Token{tok(api.TokQUpper, "M.N", 0), tok(api.TokOp, ".", 3), tok(api.TokLower, "x", 4), tok(api.TokUpper, "M", 6), tok(api.TokOp, ".", 7), tok(api.TokWord, "case", 8), tok(api.TokUpper, "M", 13), tok(api.TokOp, ".+", 14)}},
		{"M.x.y", []api.Token{tok(api.TokQLower, "M.x", 0), tok(api.TokOp, ".", 3), tok(api.TokLower, "y", 4)}},
		{"M'.N_ M'.n_", []api.Token{tok(api.TokQUpper, "M'.N_", 0), tok(api.TokQLower, "M'.n_", 6)}},
		{"M. x", []api.Token{tok(api.TokUpper, "M", 0), tok(api.TokOp, ".", 1), tok(api.TokLower, "x", 3)}},
		{"M .x", []api.Token{tok(api.TokUpper, "M", 0), tok(api.TokOp, ".", 2), tok(api.TokLower, "x", 3)}},
		{"M..x", []api.Token{tok(api.TokUpper, "M", 0), tok(api.TokOp, "..", 1), tok(api.TokLower, "x", 3)}},
		{"M._", []api.Token{tok(api.TokUpper, "M", 0), tok(api.TokOp, ".", 1), tok(api.TokSpecial, "_", 2)}},
		{"M.1", []api.Token{tok(api.TokUpper, "M", 0), tok(api.TokOp, ".", 1), num(api.TokInt, 1, 2)}},
		{"M.", []api.Token{tok(api.TokUpper, "M", 0), tok(api.TokOp, ".", 1)}},
		{"xM.y", []api.Token{tok(api.TokLower, "xM", 0), tok(api.TokOp, ".", 2), tok(api.TokLower, "y", 3)}},
	})
}

func TestNumbers(t *testing.T) {
	checkTokens(t, []lexCase{
		{"0x0f 15 0", []api.Token{num(api.TokInt, 15, 0), num(api.TokInt, 15, 5), num(api.TokInt, 0, 8)}},
		{"4611686018427387903", []api.Token{num(api.TokInt, api.MaxInt, 0)}},
		{"0x3fffffffffffffff", []api.Token{num(api.TokInt, api.MaxInt, 0)}},
		{"0x" + strings.Repeat("0", 100) + "3fffffffffffffff", []api.Token{num(api.TokInt, api.MaxInt, 0)}},
		{"0x0 0x00 0xabcdef", []api.Token{num(api.TokInt, 0, 0), num(api.TokInt, 0, 4), num(api.TokInt, 0xabcdef, 9)}},
		{"1234567890", []api.Token{num(api.TokInt, 1234567890, 0)}},
		{"1.2", []api.Token{num(api.TokInt, 1, 0), tok(api.TokOp, ".", 1), num(api.TokInt, 2, 2)}},
		{"-1", []api.Token{tok(api.TokOp, "-", 0), num(api.TokInt, 1, 1)}},
		{"1\"a\"", []api.Token{num(api.TokInt, 1, 0), tok(api.TokString, "a", 1)}},
	})
	checkFaults(t, []faultCase{
		{"007", api.ErrLexNumber, 0}, {"00", api.ErrLexNumber, 0}, {"01", api.ErrLexNumber, 0},
		{"0x", api.ErrLexNumber, 0}, {"0xg", api.ErrLexNumber, 0}, {"0X1", api.ErrLexNumber, 0}, {"00x1", api.ErrLexNumber, 0},
		{"0xA", api.ErrLexNumber, 0}, {"0x1F", api.ErrLexNumber, 0}, {"0x1g", api.ErrLexNumber, 0}, {"0x1x1", api.ErrLexNumber, 0},
		{"1a", api.ErrLexNumber, 0}, {"1A", api.ErrLexNumber, 0}, {"1_", api.ErrLexNumber, 0}, {"a 1'", api.ErrLexNumber, 2}, {"1'a'", api.ErrLexNumber, 0},
		{"4611686018427387904", api.ErrLexNumber, 0}, {"4611686018427387910", api.ErrLexNumber, 0},
		{"0x4000000000000000", api.ErrLexNumber, 0}, {"0xffffffffffffffff", api.ErrLexNumber, 0},
		{"18446744073709551617", api.ErrLexNumber, 0}, {"0x10000000000000001", api.ErrLexNumber, 0},
		{"x 9223372036854775808", api.ErrLexNumber, 2},
		{strings.Repeat("9", api.MaxText), api.ErrLexNumber, 0},
	})
}

func TestCharacters(t *testing.T) {
	checkTokens(t, []lexCase{
		{`'a' '\010' "\"'"`, []api.Token{num(api.TokChar, 97, 0), num(api.TokChar, 10, 4), tok(api.TokString, `"'`, 11)}},
		{`' ''~''"'`, []api.Token{num(api.TokChar, 32, 0), num(api.TokChar, 126, 3), num(api.TokChar, 34, 6)}},
		{`'\n' '\t' '\\' '\'' '\"'`, []api.Token{num(api.TokChar, 10, 0), num(api.TokChar, 9, 5), num(api.TokChar, 92, 10), num(api.TokChar, 39, 15), num(api.TokChar, 34, 20)}},
		{`'\000' '\255' '\127'`, []api.Token{num(api.TokChar, 0, 0), num(api.TokChar, 255, 7), num(api.TokChar, 127, 14)}},
		{`('a')`, []api.Token{tok(api.TokSpecial, "(", 0), num(api.TokChar, 97, 1), tok(api.TokSpecial, ")", 4)}},
		{`a'b'`, []api.Token{tok(api.TokLower, "a'b'", 0)}},
		{`'a'b`, []api.Token{num(api.TokChar, 97, 0), tok(api.TokLower, "b", 3)}},
	})
	for _, text := range []string{`'`, `''`, `'''`, `'a`, `'ab'`, `'\`, `'\'`, `'\n`, `'\a'`, `'\N'`, `'\256'`, `'\999'`, `'\01'`, `'\1`, `'\0100'`, `'\x41'`, `'\ '`, "'\n'", "'\t'", "'\x1f'", "'\x7f'", "'\x80'", "'\xc3\xa4'", "'\\\n'"} {
		checkFaults(t, []faultCase{{text, api.ErrLexQuote, 0}, {"f (" + text, api.ErrLexQuote, 3}})
	}
}

func TestStrings(t *testing.T) {
	checkTokens(t, []lexCase{
		{`""`, []api.Token{tok(api.TokString, "", 0)}},
		{`"a" "b"`, []api.Token{tok(api.TokString, "a", 0), tok(api.TokString, "b", 4)}},
		{`" ~'--{-"`, []api.Token{tok(api.TokString, " ~'--{-", 0)}},
		{`"\n\t\\\'\"\000\2551"x`, []api.Token{tok(api.TokString, "\n\t\\'\"\x00\xff1", 0), tok(api.TokLower, "x", 21)}},
		{`"` + strings.Repeat("a", api.MaxText-2) + `"`, []api.Token{tok(api.TokString, strings.Repeat("a", api.MaxText-2), 0)}},
	})
	for _, text := range []string{`"`, `"a`, `"\"`, `"\`, `"\q"`, `"\256"`, `"\25"`, `"ab\300"`, "\"a\n\"", "\"a\tb\"", "\"\x1f\"", "\"\x7f\"", "\"\x80\""} {
		checkFaults(t, []faultCase{{text, api.ErrLexQuote, 0}, {"f (" + text, api.ErrLexQuote, 3}})
	}
}

func TestOperators(t *testing.T) {
	checkTokens(t, []lexCase{
		{"a:b a::b", []api.Token{tok(api.TokLower, "a", 0), tok(api.TokOp, ":", 1), tok(api.TokLower, "b", 2), tok(api.TokLower, "a", 4), tok(api.TokSign, "::", 5), tok(api.TokLower, "b", 7)}},
		{"= | -> :: :", []api.Token{tok(api.TokSign, "=", 0), tok(api.TokSign, "|", 2), tok(api.TokSign, "->", 4), tok(api.TokSign, "::", 7), tok(api.TokOp, ":", 10)}},
		{"== || ->> =: <- |-> - +:", []api.Token{tok(api.TokOp, "==", 0), tok(api.TokOp, "||", 3), tok(api.TokOp, "->>", 6), tok(api.TokOp, "=:", 10), tok(api.TokOp, "<-", 13), tok(api.TokOp, "|->", 16), tok(api.TokOp, "-", 20), tok(api.TokOp, "+:", 22)}},
		{"!#$%&*+./<=>?@^|~:-", []api.Token{tok(api.TokOp, "!#$%&*+./<=>?@^|~:-", 0)}},
		{"x--y\n-->", []api.Token{tok(api.TokLower, "x", 0), tok(api.TokOp, "-->", 5)}},
		{"--", nil},
		{"---\x80 '\" {- 007", nil},
		{"--\r1\n2", []api.Token{num(api.TokInt, 2, 5)}},
		{"+-- --+", []api.Token{tok(api.TokOp, "+--", 0), tok(api.TokOp, "--+", 4)}},
		{"-- {-\n1 -- -}", []api.Token{num(api.TokInt, 1, 6)}},
	})
	checkFaults(t, []faultCase{
		{"a:b a::b a:+b", api.ErrLexOp, 10},
		{":::", api.ErrLexOp, 0}, {":-", api.ErrLexOp, 0}, {"::=", api.ErrLexOp, 0}, {":--", api.ErrLexOp, 0}, {"x :=", api.ErrLexOp, 2},
	})
}

func TestSpecials(t *testing.T) {
	for _, b := range []string{"(", ")", "[", "]", "{", "}", ",", ";", "`", "\\"} {
		checkTokens(t, []lexCase{{b, []api.Token{tok(api.TokSpecial, b, 0)}}, {b + b, []api.Token{tok(api.TokSpecial, b, 0), tok(api.TokSpecial, b, 1)}}, {b + "a", []api.Token{tok(api.TokSpecial, b, 0), tok(api.TokLower, "a", 1)}}})
	}
	checkTokens(t, []lexCase{
		{"_ _+_", []api.Token{tok(api.TokSpecial, "_", 0), tok(api.TokSpecial, "_", 2), tok(api.TokOp, "+", 3), tok(api.TokSpecial, "_", 4)}},
		{"_\"a\"", []api.Token{tok(api.TokSpecial, "_", 0), tok(api.TokString, "a", 1)}},
	})
	checkFaults(t, []faultCase{{"_ _a", api.ErrLexByte, 2}, {"__", api.ErrLexByte, 0}, {"_A", api.ErrLexByte, 0}, {"_0", api.ErrLexByte, 0}, {"_'a'", api.ErrLexByte, 0}})
}

func TestOtherBytes(t *testing.T) {
	known := " \t\n\r_()[]{},;`\\\"'!#$%&*+./<=>?@^|~:-0123456789abcdefghijklmnopqrstuvwxyzABCDEFGHIJKLMNOPQRSTUVWXYZ"
	for b := range 256 {
		if text := string([]byte{byte(b)}); !strings.Contains(known, text) {
			checkFaults(t, []faultCase{{text, api.ErrLexByte, 0}, {"a" + text, api.ErrLexByte, 1}, {"M." + text, api.ErrLexByte, 2}})
		}
	}
}

func TestFirstFaultFromTheLeft(t *testing.T) {
	checkFaults(t, []faultCase{
		{"\x80 007", api.ErrLexByte, 0}, {"007 \x80", api.ErrLexNumber, 0}, {"1 '' :+ {-", api.ErrLexQuote, 2}, {"1 :+ '' {-", api.ErrLexOp, 2}, {"{- '' :+", api.ErrLexComment, 0},
	})
}

func TestLongTexts(t *testing.T) {
	full := strings.Repeat(" ", api.MaxText-1) + "x"
	checkTokens(t, []lexCase{{full, []api.Token{tok(api.TokLower, "x", api.MaxText-1)}}})
	checkFaults(t, []faultCase{{full + " ", api.ErrLong, -1}, {"\x80" + full, api.ErrLong, -1}})
}

func TestManyTokens(t *testing.T) {
	most := strings.Repeat(",", api.MaxTokens)
	for _, behind := range []string{"", " ", "{-a-}", "--a", "{-a-} --b\n"} {
		if l, err := lex.Lex(most + behind); err != nil || len(l) != api.MaxTokens {
			t.Errorf("%d tokens and %q: %d, %v", api.MaxTokens, behind, len(l), err)
		}
	}
	checkFaults(t, []faultCase{
		{most + ",", api.ErrBig, api.MaxTokens},
		{most + "{--} ab \x80", api.ErrBig, api.MaxTokens + 5},
		{most + "\x80,", api.ErrLexByte, api.MaxTokens},
		{most + " 007", api.ErrLexNumber, api.MaxTokens + 1},
		{most + "{-,", api.ErrLexComment, api.MaxTokens},
		{"\x80" + most + ",", api.ErrLexByte, 0},
	})
}

// P1.2: what a token has beside its kind; the tables above look at the rest.

func TestOneTokenOfEachKind(t *testing.T) {
	checkTokens(t, []lexCase{
		{"f x' = M.g(x')", []api.Token{tok(api.TokLower, "f", 0), tok(api.TokLower, "x'", 2), tok(api.TokSign, "=", 5), tok(api.TokQLower, "M.g", 7), tok(api.TokSpecial, "(", 10), tok(api.TokLower, "x'", 11), tok(api.TokSpecial, ")", 13)}},
		{` a A M.a M.A + 7 '7' "7" _ in =`, []api.Token{tok(1, "a", 1), tok(2, "A", 3), tok(3, "M.a", 5), tok(4, "M.A", 9), tok(5, "+", 13), num(6, 7, 15), num(7, 55, 17), tok(8, "7", 21), tok(9, "_", 25), tok(10, "in", 27), tok(11, "=", 30)}},
	})
}

func TestEachByteAsCharacter(t *testing.T) {
	for b := range 256 {
		digits := strconv.Itoa(1000 + b)[1:]
		checkTokens(t, []lexCase{
			{`'\` + digits + `'`, []api.Token{num(api.TokChar, b, 0)}},
			{`"\` + digits + `"`, []api.Token{tok(api.TokString, string([]byte{byte(b)}), 0)}},
		})
		if b < 32 || b > 126 || b == '\'' || b == '\\' {
			checkFaults(t, []faultCase{{"'" + string([]byte{byte(b)}) + "'", api.ErrLexQuote, 0}})
		} else {
			checkTokens(t, []lexCase{{"'" + string([]byte{byte(b)}) + "'", []api.Token{num(api.TokChar, b, 0)}}})
		}
	}
}

// W6: what is answered shares no memory with the text, nor with another answer.

func TestAnswersAreApart(t *testing.T) {
	text := `abc M.x M.N + -> case "string" ( _`
	begin := uintptr(unsafe.Pointer(unsafe.StringData(text)))
	a, _ := lex.Lex(text)
	b, _ := lex.Lex(text)
	for i := range a {
		if p := uintptr(unsafe.Pointer(unsafe.StringData(a[i].Text))); begin <= p && p < begin+uintptr(len(text)) {
			t.Errorf("%q lies within the text", a[i].Text)
		}
		a[i] = api.Token{}
	}
	if want, _ := plainLex(text); !slices.Equal(b, want) {
		t.Errorf("%v, want %v", b, want)
	}
}
