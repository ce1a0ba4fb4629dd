package lex

import (
	"strings"

	"sloth/api"
)

// cutter is a text that is being cut.
type cutter struct {
	text   string
	from   int // where the present piece begins: every fault has its place there
	at     int // where the rest begins
	tokens []api.Token
}

// piece is what stands between the two places. It is new memory, so that no token keeps the whole text.
func (c *cutter) piece() string { return strings.Clone(c.text[c.from:c.at]) }

// cut goes from piece to piece: what is nothing is passed over, what is a token is kept.
func (c *cutter) cut() api.Errno {
	var t api.Token
	var code api.Errno
next:
	c.from = c.at
	switch {
	case c.at == len(c.text):
		return api.OK
	case classAt(c.text, c.at) == blank:
		goto gap
	case strings.HasPrefix(c.text[c.at:], "{-"):
		goto block
	case isDashes(c.text[c.at:runEnd(c.text, c.at)]):
		goto line
	}
	t, code = c.token()
	if code != api.OK {
		return code
	}
	goto keep
gap:
	c.at++
	goto next
block:
	c.at = blockEnd(c.text, c.at)
	if c.at < 0 {
		return api.ErrLexComment
	}
	goto next
line:
	c.at = lineEnd(c.text, c.at)
	goto next
keep:
	if len(c.tokens) == api.MaxTokens {
		return api.ErrBig
	}
	t.At = c.from
	c.tokens = append(c.tokens, t)
	goto next
}

// token cuts the token that begins here.
func (c *cutter) token() (api.Token, api.Errno) {
	var t api.Token
	var code api.Errno
	switch classAt(c.text, c.at) {
	case small:
		goto lower
	case capital:
		goto upper
	case digit:
		goto number
	case mark:
		goto character
	case quote:
		goto text
	case sign:
		goto operator
	case special:
		goto single
	case under:
		goto wild
	}
	return t, api.ErrLexByte
lower:
	c.at = nameEnd(c.text, c.at)
	t.Kind = wordKind(c.text[c.from:c.at])
	goto spelt
upper:
	c.at, t.Kind = upperEnd(c.text, c.at)
	goto spelt
operator:
	c.at = runEnd(c.text, c.at)
	if t.Kind = runKind(c.text[c.from:c.at]); t.Kind == noKind {
		return t, api.ErrLexOp
	}
	goto spelt
wild:
	if isNameSign(classAt(c.text, c.at+1)) {
		return t, api.ErrLexByte
	}
single:
	c.at, t.Kind = c.at+1, api.TokSpecial
spelt:
	t.Text = c.piece()
	return t, api.OK
number:
	t.Kind = api.TokInt
	t.Num, c.at, code = readNumber(c.text, c.at)
	return t, code
character:
	t.Kind = api.TokChar
	t.Num, c.at, code = readChar(c.text, c.at)
	return t, code
text:
	t.Kind = api.TokString
	t.Text, c.at, code = readString(c.text, c.at)
	return t, code
}

// blockEnd tells where a comment ends that begins with a brace; -1: nowhere.
func blockEnd(text string, at int) int {
	open := 0
look:
	if at+2 > len(text) {
		return -1
	}
	switch text[at : at+2] {
	case "{-":
		open++
		goto pair
	case "-}":
		open--
		goto pair
	}
	at++
	goto look
pair:
	at += 2
	if open > 0 {
		goto look
	}
	return at
}

// lineEnd tells where the line ends in which a place is.
func lineEnd(text string, at int) int {
	if n := strings.IndexByte(text[at:], '\n'); n >= 0 {
		return at + n
	}
	return len(text)
}
