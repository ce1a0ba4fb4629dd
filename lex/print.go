package lex

import (
	"strconv"

	"sloth/api"
)

// join writes what are tokens as a text.
func join(l []api.Token) (string, api.Errno) {
	var out []byte
	for i, t := range l {
		// A Text is no longer than what is written of it: a long one is not written at all.
		if len(out) > api.MaxText || len(t.Text) > api.MaxText {
			return "", api.ErrBig
		}
		if i > 0 {
			out = append(out, ' ')
		}
		out = write(out, t)
	}
	if len(out) > api.MaxText {
		return "", api.ErrBig
	}
	return string(out), api.OK
}

func write(out []byte, t api.Token) []byte {
	switch t.Kind {
	case api.TokInt:
		return strconv.AppendInt(out, int64(t.Num), 10)
	case api.TokChar:
		return writeQuoted(out, string([]byte{byte(t.Num)}), '\'')
	case api.TokString:
		return writeQuoted(out, t.Text, '"')
	}
	return append(out, t.Text...)
}

func writeQuoted(out []byte, text string, around byte) []byte {
	out = append(out, around)
	for i := range len(text) {
		out = writeByte(out, text[i], around)
	}
	return append(out, around)
}

// writeByte writes a byte so that it may stand between quotes of one kind.
func writeByte(out []byte, b, around byte) []byte {
	switch {
	case b == '\n':
		return append(out, '\\', 'n')
	case b == '\t':
		return append(out, '\\', 't')
	case b == '\\' || b == around:
		return append(out, '\\', b)
	case isPlain(b):
		return append(out, b)
	}
	return append(out, '\\', '0'+b/100, '0'+b/10%10, '0'+b%10)
}
