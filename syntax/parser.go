package syntax

import "sloth/api"

// parser reads tokens from the left, one ahead. The rows of the grammar stand in it, since they are made by calls and wanted often.
type parser struct {
	tokens []api.Token
	next   int
	end    int // the place behind all tokens
	module api.Module
	above  *api.Fault // of the first declaration that is above a limit

	decls    []form[api.Errno]
	types    []form[api.Type]
	pats     []form[api.Pat]
	operands []form[api.Term]
	atoms    []form[api.Term]
}

// form says with which token something begins, and how it is read then.
type form[T any] struct {
	kind int
	text string // none: whatever the token's Text is
	read func(*parser) T
}

func newParser(tokens []api.Token, end int) *parser {
	return &parser{
		tokens: tokens, end: end,
		decls: declForms(), types: typeForms(), pats: patForms(), operands: operandForms(), atoms: atomForms(),
	}
}

// peek tells the token that comes next; behind the last one: none, at the text's end.
func (p *parser) peek() api.Token {
	if p.next == len(p.tokens) {
		return api.Token{At: p.end}
	}
	return p.tokens[p.next]
}

// giveUp says that the next token cannot stand there.
func (p *parser) giveUp() {
	panic(&api.Fault{Code: api.ErrSyntax, At: p.peek().At})
}

// sees tells whether the next token is one that the grammar writes in quotes. No two kinds of these have a Text in common.
func (p *parser) sees(text string) bool {
	t := p.peek()
	switch t.Kind {
	case api.TokWord, api.TokSign, api.TokSpecial, api.TokOp:
		return t.Text == text
	}
	return false
}

// skip takes such a token, if it comes next.
func (p *parser) skip(text string) bool {
	if !p.sees(text) {
		return false
	}
	p.next++
	return true
}

// want takes such a token, which must come next.
func (p *parser) want(text string) {
	if !p.skip(text) {
		p.giveUp()
	}
}

// seesKind tells whether the next token is of one of some kinds.
func (p *parser) seesKind(kinds ...int) bool {
	next := p.peek().Kind
	for _, kind := range kinds {
		if next == kind {
			return true
		}
	}
	return false
}

// take takes a token of one of some kinds, which must come next.
func (p *parser) take(kinds ...int) api.Token {
	if !p.seesKind(kinds...) {
		p.giveUp()
	}
	t := p.peek()
	p.next++
	return t
}

// reader tells how what comes next is read, if one of the forms begins with it; else nil.
func reader[T any](p *parser, forms []form[T]) func(*parser) T {
	t := p.peek()
	for _, f := range forms {
		if f.kind == t.Kind && (f.text == "" || f.text == t.Text) {
			return f.read
		}
	}
	return nil
}

// one reads what must be of one of the forms.
func one[T any](p *parser, forms []form[T]) T {
	read := reader(p, forms)
	if read == nil {
		p.giveUp()
	}
	return read(p)
}

// many reads as much as there is of the forms.
func many[T any](p *parser, forms []form[T]) []T {
	var l []T
	for read := reader(p, forms); read != nil; read = reader(p, forms) {
		l = append(l, read(p))
	}
	return l
}

// listed reads some things with commas between them, as many as most.
func listed[T any](p *parser, most int, read func(*parser) T) []T {
	l := []T{read(p)}
	for len(l) < most && p.skip(",") {
		l = append(l, read(p))
	}
	return l
}

// block reads some things in curly brackets, with a semicolon behind each; behind the last it may lack.
func block[T any](p *parser, read func(*parser) T) []T {
	p.want("{")
	l := []T{read(p)}
	for p.skip(";") && !p.sees("}") {
		l = append(l, read(p))
	}
	p.want("}")
	return l
}
