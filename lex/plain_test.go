package lex_test

import (
	"math/big"
	"regexp"
	"slices"
	"strconv"
	"strings"

	"sloth/api"
)

// The table of P1.1 a second time, by regular expressions and as slow as may be: what Lex answers is held against it.

var reserved = []string{"module", "import", "data", "infixl", "infixr", "infix", "let", "in", "case", "of", "if", "then", "else"}

var (
	blankForm  = regexp.MustCompile(`^[ \t\n\r]`)
	lowerForm  = regexp.MustCompile(`^[a-z][a-zA-Z0-9_']*`)
	upperForm  = regexp.MustCompile(`^[A-Z][a-zA-Z0-9_']*`)
	pairForm   = regexp.MustCompile(`\{-|-\}`)
	hexForm    = regexp.MustCompile(`^0x[0-9a-f]+`)
	digitsForm = regexp.MustCompile(`^[0-9]+`)
	signForm   = regexp.MustCompile(`^[a-zA-Z0-9_']`)
	charForm   = regexp.MustCompile(`^'([ -&(-\[\]-~]|\\[nt\\'"]|\\[01][0-9][0-9]|\\2[0-4][0-9]|\\25[0-5])'`)
	stringForm = regexp.MustCompile(`^"([ -!#-\[\]-~]|\\[nt\\'"]|\\[01][0-9][0-9]|\\2[0-4][0-9]|\\25[0-5])*"`)
	escapeForm = regexp.MustCompile(`\\([nt\\'"]|[0-9]{3})`)
	runForm    = regexp.MustCompile(`^[!#$%&*+./<=>?@^|~:\-]+`)
	lineForm   = regexp.MustCompile(`^---*$`)
)

// plainLex answers as Lex does, of texts that are not too long.
func plainLex(text string) ([]api.Token, api.Fault) {
	var l []api.Token
	for at := 0; at < len(text); {
		t, size, code := plainPiece(text[at:])
		if code == api.OK && t.Kind != 0 && len(l) == api.MaxTokens {
			code = api.ErrBig
		}
		if code != api.OK {
			return nil, api.Fault{Code: code, At: at}
		}
		if t.Kind != 0 {
			t.At = at
			l = append(l, t)
		}
		at += size
	}
	return l, api.Fault{}
}

// plainPiece tells what a text begins with, and how many bytes that has.
func plainPiece(text string) (api.Token, int, api.Errno) {
	name := lowerForm.FindString(text)
	switch {
	case blankForm.MatchString(text):
		return api.Token{}, 1, api.OK
	case strings.HasPrefix(text, "{-"):
		return plainComment(text)
	case slices.Contains(reserved, name):
		return tok(api.TokWord, name, 0), len(name), api.OK
	case name != "":
		return tok(api.TokLower, name, 0), len(name), api.OK
	case upperForm.MatchString(text):
		return plainUpper(text)
	case digitsForm.MatchString(text):
		return plainNumber(text)
	case text[0] == '\'' || text[0] == '"':
		return plainQuoted(text)
	case runForm.MatchString(text):
		return plainRun(text)
	case strings.Contains("()[]{},;\\`", text[:1]), text[0] == '_' && !signForm.MatchString(text[1:]):
		return tok(api.TokSpecial, text[:1], 0), 1, api.OK
	}
	return api.Token{}, 0, api.ErrLexByte
}

func plainComment(text string) (api.Token, int, api.Errno) {
	open := 0
	for _, pair := range pairForm.FindAllStringIndex(text, -1) {
		if text[pair[0]] == '{' {
			open++
		} else {
			open--
		}
		if open == 0 {
			return api.Token{}, pair[1], api.OK
		}
	}
	return api.Token{}, 0, api.ErrLexComment
}

func plainUpper(text string) (api.Token, int, api.Errno) {
	first := upperForm.FindString(text)
	if rest, ok := strings.CutPrefix(text[len(first):], "."); ok {
		if upper := upperForm.FindString(rest); upper != "" {
			return tok(api.TokQUpper, first+"."+upper, 0), len(first) + 1 + len(upper), api.OK
		}
		if lower := lowerForm.FindString(rest); lower != "" && !slices.Contains(reserved, lower) {
			return tok(api.TokQLower, first+"."+lower, 0), len(first) + 1 + len(lower), api.OK
		}
	}
	return tok(api.TokUpper, first, 0), len(first), api.OK
}

func plainNumber(text string) (api.Token, int, api.Errno) {
	base, all := 16, hexForm.FindString(text)
	digits := strings.TrimPrefix(all, "0x")
	if all == "" {
		base, all = 10, digitsForm.FindString(text)
		digits = all
	}
	n, _ := new(big.Int).SetString(digits, base)
	if base == 10 && digits[0] == '0' && len(digits) > 1 || n.Cmp(big.NewInt(api.MaxInt)) > 0 || signForm.MatchString(text[len(all):]) {
		return api.Token{}, 0, api.ErrLexNumber
	}
	return num(api.TokInt, int(n.Int64()), 0), len(all), api.OK
}

func plainQuoted(text string) (api.Token, int, api.Errno) {
	char, row := charForm.FindString(text), stringForm.FindString(text)
	if char+row == "" {
		return api.Token{}, 0, api.ErrLexQuote
	}
	all := char + row
	said := escapeForm.ReplaceAllStringFunc(all[1:len(all)-1], func(s string) string {
		switch s[1] {
		case 'n':
			return "\n"
		case 't':
			return "\t"
		case '\\', '\'', '"':
			return s[1:]
		}
		n, _ := strconv.Atoi(s[1:])
		return string([]byte{byte(n)})
	})
	if row != "" {
		return tok(api.TokString, said, 0), len(all), api.OK
	}
	return num(api.TokChar, int(said[0]), 0), len(all), api.OK
}

func plainRun(text string) (api.Token, int, api.Errno) {
	run := runForm.FindString(text)
	switch {
	case lineForm.MatchString(run):
		line, _, _ := strings.Cut(text, "\n")
		return api.Token{}, len(line), api.OK
	case run == "=" || run == "|" || run == "->" || run == "::":
		return tok(api.TokSign, run, 0), len(run), api.OK
	case run[0] == ':' && run != ":":
		return api.Token{}, 0, api.ErrLexOp
	}
	return tok(api.TokOp, run, 0), len(run), api.OK
}
