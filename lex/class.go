package lex

// The classes of bytes. Those of names' signs stand first, from small to under, so that one comparison tells them.
const (
	other = iota
	small
	capital
	digit
	mark
	under
	blank
	quote
	sign
	special
)

// classes has no place for bytes from 128 on: such a byte stands in no token.
var classes = [128]uint8{
	'a': small, small, small, small, small, small, small, small, small, small, small, small, small,
	'n': small, small, small, small, small, small, small, small, small, small, small, small, small,
	'A': capital, capital, capital, capital, capital, capital, capital, capital, capital, capital, capital, capital, capital,
	'N': capital, capital, capital, capital, capital, capital, capital, capital, capital, capital, capital, capital, capital,
	'0': digit, digit, digit, digit, digit, digit, digit, digit, digit, digit,
	'\'': mark, '_': under, '"': quote,
	' ': blank, '\t': blank, '\n': blank, '\r': blank,
	'!': sign, '#': sign, '$': sign, '%': sign, '&': sign, '*': sign, '+': sign,
	'.': sign, '/': sign, '<': sign, '=': sign, '>': sign, '?': sign, '@': sign,
	'^': sign, '|': sign, '~': sign, ':': sign, '-': sign,
	'(': special, ')': special, '[': special, ']': special, '{': special, '}': special,
	',': special, ';': special, '`': special, '\\': special,
}

// classAt takes what is behind the text's end for a byte of no class, so that everything ends there.
func classAt(text string, at int) uint8 {
	if at >= len(text) || text[at] >= 128 {
		return other
	}
	return classes[text[at]]
}

func isNameSign(class uint8) bool { return small <= class && class <= under }
