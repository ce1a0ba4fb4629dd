// Package lex: tokens of a source: see ../shared/doc/01-lex.md.
package lex

import "sloth/api"

// Lex takes a text apart.
func Lex(text string) ([]api.Token, error) {
	if len(text) > api.MaxText {
		return nil, &api.Fault{Code: api.ErrLong, At: -1}
	}
	c := cutter{text: text}
	if code := c.cut(); code != api.OK {
		return nil, &api.Fault{Code: code, At: c.from}
	}
	return c.tokens, nil
}

// Print writes tokens as a text.
func Print(l []api.Token) (string, api.Errno) {
	if len(l) > api.MaxTokens {
		return "", api.ErrLong
	}
	for _, t := range l {
		if !isToken(t) {
			return "", api.ErrArg
		}
	}
	return join(l)
}
