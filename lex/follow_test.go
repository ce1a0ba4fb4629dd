package lex_test

import (
	"math/rand"
	"slices"
	"strings"
	"testing"

	"sloth/api"
	"sloth/lex"
)

// allTexts hands on every text of up to so many bytes of an alphabet.
func allTexts(alphabet string, most int, do func(string)) {
	do("")
	if most > 0 {
		for _, b := range []byte(alphabet) {
			allTexts(alphabet, most-1, func(rest string) { do(string([]byte{b}) + rest) })
		}
	}
}

// pieces are what random texts are made of, with nothing between, so that they run into one another.
var pieces = append([]string{
	" ", "\n", "\r", "\t", "{-", "-}", "--", "---", "-", "->", "-->", ":", "::", ":+", "=", "|", "+", ".", "<=", "!", "?",
	"a", "x1", "z_'", "M", "Abc", "M.", ".x", "M.N", "M.x", "_", "'", "\"", "\\", "\\n", "\\t", "\\'", "\\\"", "\\\\", "\\010", "\\255", "\\256",
	"'a'", "'\\''", "\"ab\"", "\"\\\"\"", "0", "00", "7", "10", "0x", "0xf", "0x0F", "4611686018427387903", "4611686018427387904",
	"(", ")", "[", "]", "{", "}", ",", ";", "`", "\x00", "\x7f", "\x80", "\xff",
}, reserved...)

func randomText(r *rand.Rand, most int, from []string) string {
	var b strings.Builder
	for range r.Intn(most + 1) {
		b.WriteString(from[r.Intn(len(from))])
	}
	return b.String()
}

// checkPlain holds Lex against the slow form of the table: P1.1 and P1.2.
func checkPlain(t *testing.T, text string) {
	t.Helper()
	got, err := lex.Lex(text)
	fault, ok := api.Seen(err)
	want, wantFault := plainLex(text)
	if !ok || fault != wantFault || !slices.Equal(got, want) {
		t.Fatalf("Lex(%s) = %s, %v; want %s, %v", short(text), short(got), err, short(want), &wantFault)
	}
}

func TestAllShortTexts(t *testing.T) {
	for _, x := range []struct {
		alphabet string
		most     int
	}{
		{"{-}a", 8}, {"{-}\n1|", 6}, {"M.xof' ", 6}, {"01x9afFg_", 5}, {"'\"\\n025", 6}, {":-=|>+\na", 5}, {"_ \"'(aA0.\x80", 4},
	} {
		allTexts(x.alphabet, x.most, func(text string) { checkPlain(t, text) })
	}
	allBytes := make([]byte, 256)
	for i := range allBytes {
		allBytes[i] = byte(i)
	}
	allTexts(string(allBytes), 2, func(text string) { checkPlain(t, text) })
}

func TestRandomTexts(t *testing.T) {
	r := rand.New(rand.NewSource(1))
	for range 50000 {
		checkPlain(t, randomText(r, 12, pieces))
	}
	for range 20 {
		checkPlain(t, randomText(r, 2000, pieces[:21]))
	}
}

// P1.4.

func bare(l []api.Token) []api.Token {
	out := slices.Clone(l)
	for i := range out {
		out[i].At = 0
	}
	return out
}

func checkThereAndBack(t *testing.T, l []api.Token) {
	t.Helper()
	text, e := lex.Print(l)
	if e != api.OK {
		t.Fatalf("Print(%s): %v", short(l), e)
	}
	back, err := lex.Lex(text)
	if err != nil || !slices.Equal(bare(back), bare(l)) {
		t.Fatalf("Print(%s) = %s; Lex of it: %s, %v", short(l), short(text), short(back), err)
	}
}

// someTokens has tokens of all kinds, most of which would run into one another if nothing stood between them.
func someTokens() []api.Token {
	var l []api.Token
	for kind, texts := range spelt() {
		for _, text := range texts {
			if len(text) < 100 {
				l = append(l, tok(kind, text, 0), tok(api.TokString, text, 0))
			}
		}
	}
	for _, text := range nowhere {
		l = append(l, tok(api.TokString, text, 0))
	}
	for _, n := range []int{0, 1, 9, 10, 255, 256, api.MaxInt - 1, api.MaxInt} {
		l = append(l, num(api.TokInt, n, 0))
	}
	for b := range 256 {
		l = append(l, num(api.TokChar, b, 0), tok(api.TokString, string([]byte{byte(b)}), 0))
	}
	return l
}

func TestThereAndBack(t *testing.T) {
	some := someTokens()
	checkThereAndBack(t, nil)
	checkThereAndBack(t, some)
	for _, a := range some {
		checkThereAndBack(t, []api.Token{a})
		for _, b := range some {
			checkThereAndBack(t, []api.Token{a, b})
		}
	}
	checkThereAndBack(t, slices.Repeat([]api.Token{tok(api.TokOp, "-", 0)}, api.MaxTokens))
	checkThereAndBack(t, []api.Token{tok(api.TokLower, strings.Repeat("x", api.MaxText), 0)})
	r := rand.New(rand.NewSource(2))
	for range 2000 {
		l := make([]api.Token, r.Intn(50))
		for i := range l {
			l[i] = some[r.Intn(len(some))]
		}
		checkThereAndBack(t, l)
	}
}

// P1.5.

func checkJoined(t *testing.T, a, b string) {
	t.Helper()
	la, err := lex.Lex(a)
	if err != nil {
		return
	}
	lb, err := lex.Lex(b)
	want, _ := api.Seen(err)
	got, err := lex.Lex(a + "\n" + b)
	fault, _ := api.Seen(err)
	if want.Code != api.OK {
		want.At += len(a) + 1
		if fault != want || len(got) != 0 {
			t.Fatalf("Lex(%s, a line's end, %s): %v; want %v", short(a), short(b), err, &want)
		}
		return
	}
	for i := range lb {
		lb[i].At += len(a) + 1
	}
	if all := slices.Concat(la, lb); err != nil || !slices.Equal(got, all) {
		t.Fatalf("Lex(%s, a line's end, %s) = %s, %v; want %s", short(a), short(b), short(got), err, short(all))
	}
}

func TestJoinedTexts(t *testing.T) {
	for _, a := range pieces {
		for _, b := range pieces {
			checkJoined(t, a, b)
		}
	}
	r := rand.New(rand.NewSource(3))
	for range 30000 {
		checkJoined(t, randomText(r, 5, pieces), randomText(r, 5, pieces))
	}
	half := strings.Repeat("a ", api.MaxTokens/2)
	checkJoined(t, half, half)
	checkJoined(t, half+"--", half)
	checkJoined(t, strings.Repeat(" ", api.MaxText-2), "x")
	checkJoined(t, strings.Repeat(" ", api.MaxText-2), "\x80")
}

// P1.6.

func checkAhead(t *testing.T, text string) {
	t.Helper()
	_, err := lex.Lex(text)
	fault, _ := api.Seen(err)
	if fault.Code == api.OK || fault.Code == api.ErrLong {
		return
	}
	if fault.At < 0 || fault.At >= len(text) {
		t.Fatalf("Lex(%s): %v, a place that is not there", short(text), err)
	}
	if _, err := lex.Lex(text[:fault.At]); err != nil {
		t.Fatalf("Lex(%s): %v; ahead of it: %v", short(text), &fault, err)
	}
}

func TestAheadOfFaults(t *testing.T) {
	allTexts("a1M.'\"\\-{:_", 4, func(text string) { checkAhead(t, text) })
	r := rand.New(rand.NewSource(4))
	for range 50000 {
		checkAhead(t, randomText(r, 12, pieces))
	}
	checkAhead(t, strings.Repeat("a+", api.MaxTokens))
	checkAhead(t, strings.Repeat("a+", api.MaxTokens/2)+"\x80")
}
