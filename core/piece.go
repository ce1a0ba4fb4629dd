package core

import (
	"strings"

	"sloth/api"
)

// piece is what stands in a text between blanks: it can be written at the end of one.
type piece interface {
	write(text []byte) []byte
}

type word string

type bracket byte

const (
	opening bracket = '('
	closing bracket = ')'
)

// quoted is a name in quotes, without them.
type quoted string

func (w word) write(text []byte) []byte { return append(text, w...) }

func (b bracket) write(text []byte) []byte { return append(text, byte(b)) }

func (q quoted) write(text []byte) []byte {
	text = append(text, '"')
	for i := range len(q) {
		if isMarked(q[i]) {
			text = append(text, '\\')
		}
		text = append(text, q[i])
	}
	return append(text, '"')
}

// isMarked tells whether a `\` stands ahead of a byte in quotes.
func isMarked(b byte) bool { return b == '"' || b == '\\' }

// cut cuts the first piece off a text: nil, where the text ends; false, where there is none.
func cut(text string) (piece, string, bool) {
	text = strings.TrimLeft(text, " \t\n\r")
	if text == "" {
		return nil, "", true
	}
	switch text[0] {
	case '(', ')':
		return bracket(text[0]), text[1:], true
	case '"':
		return cutQuoted(text[1:])
	}
	end := 0
	for end < len(text) && isWordSign(text[end]) {
		end++
	}
	return word(text[:end]), text[end:], end > 0
}

func isWordSign(b byte) bool {
	return 33 <= b && b <= 126 && b != '(' && b != ')' && b != '"'
}

// cutQuoted cuts off a name, behind whose first `"` the text begins.
func cutQuoted(text string) (piece, string, bool) {
	var name []byte
	for i := 0; i < len(text) && len(name) <= api.MaxName; i++ {
		switch {
		case text[i] == '"':
			return quoted(name), text[i+1:], isName(string(name))
		case text[i] == '\\':
			i++
			if i == len(text) || !isMarked(text[i]) {
				return nil, "", false
			}
		}
		name = append(name, text[i])
	}
	return nil, "", false
}

// wrongPieces tells whether a text is not made of pieces, or has too many brackets open at one time.
func wrongPieces(text string) api.Errno {
	open, most := 0, 0
	for text != "" {
		p, rest, ok := cut(text)
		switch {
		case !ok:
			return api.ErrCoreText
		case p == opening:
			open++
		case p == closing && open > 0:
			open--
		}
		most = max(most, open)
		text = rest
	}
	if most > 4*api.MaxDeep {
		return api.ErrNest
	}
	return api.OK
}
