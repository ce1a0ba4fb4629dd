package lex

import (
	"strings"

	"sloth/api"
)

// noDigit is above the digits of every base.
const noDigit = 16

// digitAt tells what the digit at a place stands for, in whatever base it is one.
func digitAt(text string, at int) int {
	switch {
	case classAt(text, at) == digit:
		return int(text[at] - '0')
	case classAt(text, at) == small && text[at] <= 'f':
		return int(text[at]-'a') + 10
	}
	return noDigit
}

// readNumber reads the number that begins at a place, and tells where it ends.
func readNumber(text string, at int) (int, int, api.Errno) {
	base, from := 10, at
	if strings.HasPrefix(text[at:], "0x") && digitAt(text, at+2) < 16 {
		base, from = 16, at+2
	}
	n, end := 0, from
	for ; digitAt(text, end) < base; end++ {
		d := digitAt(text, end)
		if n > (api.MaxInt-d)/base {
			return 0, 0, api.ErrLexNumber
		}
		n = n*base + d
	}
	padded := base == 10 && text[from] == '0' && end > from+1
	if padded || isNameSign(classAt(text, end)) {
		return 0, 0, api.ErrLexNumber
	}
	return n, end, api.OK
}

// readChar reads the character whose first quote stands at a place, and tells where it ends.
func readChar(text string, at int) (int, int, api.Errno) {
	b, end, ok := quoted(text, at+1, '\'')
	if !ok || classAt(text, end) != mark {
		return 0, 0, api.ErrLexQuote
	}
	return int(b), end + 1, api.OK
}

// readString reads the string whose first quote stands at a place, and tells where it ends.
func readString(text string, at int) (string, int, api.Errno) {
	var said []byte
	at++
	for classAt(text, at) != quote {
		b, end, ok := quoted(text, at, '"')
		if !ok {
			return "", 0, api.ErrLexQuote
		}
		said, at = append(said, b), end
	}
	return string(said), at + 1, api.OK
}

// quoted reads a byte between quotes of one kind, tells where it ends, and whether it may stand there.
func quoted(text string, at int, around byte) (byte, int, bool) {
	if at >= len(text) {
		return 0, 0, false
	}
	b := text[at]
	if b == '\\' {
		return escaped(text, at+1)
	}
	return b, at + 1, isPlain(b) && b != around
}

// isPlain holds of quotes and of the backslash too: whether these stand for themselves hangs on what is around them.
func isPlain(b byte) bool { return 32 <= b && b <= 126 }

// escaped reads what stands behind a backslash, as quoted does.
func escaped(text string, at int) (byte, int, bool) {
	if at >= len(text) {
		return 0, 0, false
	}
	switch b := text[at]; b {
	case 'n':
		return '\n', at + 1, true
	case 't':
		return '\t', at + 1, true
	case '\\', '\'', '"':
		return b, at + 1, true
	}
	n := 0
	for i := range 3 {
		if classAt(text, at+i) != digit {
			return 0, 0, false
		}
		n = 10*n + int(text[at+i]-'0')
	}
	return byte(n), at + 3, n <= 255
}
