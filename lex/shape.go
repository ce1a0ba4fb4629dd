package lex

import (
	"strings"

	"sloth/api"
)

// noKind is the kind of what is no token.
const noKind = 0

// nameEnd tells where the names' signs end that stand from a place on.
func nameEnd(text string, at int) int {
	for isNameSign(classAt(text, at)) {
		at++
	}
	return at
}

// runEnd tells where the operators' signs end that stand from a place on.
func runEnd(text string, at int) int {
	for classAt(text, at) == sign {
		at++
	}
	return at
}

func isReserved(name string) bool {
	switch name {
	case "module", "import", "data", "infixl", "infixr", "infix", "let", "in", "case", "of", "if", "then", "else":
		return true
	}
	return false
}

// wordKind tells the kind of a name that begins small.
func wordKind(name string) int {
	if isReserved(name) {
		return api.TokWord
	}
	return api.TokLower
}

// upperEnd tells where a name ends that begins with a capital, with all behind a point that belongs to it, and its kind.
func upperEnd(text string, at int) (int, int) {
	point := nameEnd(text, at)
	if point == len(text) || text[point] != '.' {
		return point, api.TokUpper
	}
	end := nameEnd(text, point+1)
	switch class := classAt(text, point+1); {
	case class == capital:
		return end, api.TokQUpper
	case class == small && !isReserved(text[point+1:end]):
		return end, api.TokQLower
	}
	return point, api.TokUpper
}

// isDashes tells whether a run of operators' signs begins a comment.
func isDashes(run string) bool {
	return len(run) >= 2 && strings.Count(run, "-") == len(run)
}

// runKind tells the kind of a run of operators' signs.
func runKind(run string) int {
	switch {
	case run == "=" || run == "|" || run == "->" || run == "::":
		return api.TokSign
	case isDashes(run), run[0] == ':' && run != ":":
		return noKind
	}
	return api.TokOp
}

// kindOf tells the kind of the token that a whole text spells.
func kindOf(text string) int {
	end, kind := 0, noKind
	switch classAt(text, 0) {
	case small:
		end, kind = nameEnd(text, 0), wordKind(text)
	case capital:
		end, kind = upperEnd(text, 0)
	case sign:
		end, kind = runEnd(text, 0), runKind(text)
	case special, under:
		end, kind = 1, api.TokSpecial
	}
	if end != len(text) {
		return noKind
	}
	return kind
}

// isToken tells whether Lex could have made a token, its place left out.
func isToken(t api.Token) bool {
	switch t.Kind {
	case noKind:
		return false
	case api.TokInt:
		return t.Text == "" && 0 <= t.Num && t.Num <= api.MaxInt
	case api.TokChar:
		return t.Text == "" && 0 <= t.Num && t.Num <= 255
	case api.TokString:
		return t.Num == 0
	}
	return t.Num == 0 && kindOf(t.Text) == t.Kind
}
