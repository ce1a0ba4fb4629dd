package syntax

import "sloth/api"

// operandForms: how an operand is read that is more than a row of atoms.
func operandForms() []form[api.Term] {
	return []form[api.Term]{
		{api.TokSpecial, "\\", (*parser).lambda},
		{api.TokWord, "let", (*parser).let},
		{api.TokWord, "if", (*parser).choice},
		{api.TokWord, "case", (*parser).cases},
	}
}

// atomForms: how an atom is read.
func atomForms() []form[api.Term] {
	return []form[api.Term]{
		{api.TokLower, "", (*parser).termName},
		{api.TokQLower, "", (*parser).termName},
		{api.TokUpper, "", (*parser).termName},
		{api.TokQUpper, "", (*parser).termName},
		{api.TokInt, "", (*parser).termInt},
		{api.TokChar, "", (*parser).termInt},
		{api.TokString, "", (*parser).stringTerm},
		{api.TokSpecial, "(", (*parser).bracketed},
		{api.TokSpecial, "[", (*parser).listTerm},
	}
}

func (p *parser) expr() api.Term {
	return flat(p.row(p.operand()))
}

// row reads operators with an operand behind each, as many as there are, behind what was read of a row.
func (p *parser) row(read ...api.Term) []api.Term {
	for p.seesOp() {
		read = append(read, p.op(), p.operand())
	}
	return read
}

func (p *parser) seesOp() bool {
	return p.seesKind(api.TokOp) || p.sees("`")
}

func (p *parser) op() api.Term {
	if !p.skip("`") {
		return nameTerm(p.take(api.TokOp))
	}
	t := p.termName()
	p.want("`")
	return t
}

func (p *parser) operand() api.Term {
	if read := reader(p, p.operands); read != nil {
		return read(p)
	}
	t := one(p, p.atoms)
	for _, argument := range many(p, p.atoms) {
		t = apply(t, argument)
	}
	return t
}

func (p *parser) lambda() api.Term {
	p.want("\\")
	pats := append([]api.Pat{one(p, p.pats)}, many(p, p.pats)...)
	p.want("->")
	return api.Term{Kind: api.TermLam, Pats: pats, Args: []api.Term{p.expr()}}
}

func (p *parser) let() api.Term {
	p.want("let")
	clauses := block(p, (*parser).clause)
	p.want("in")
	return api.Term{Kind: api.TermLet, Clauses: clauses, Args: []api.Term{p.expr()}}
}

func (p *parser) choice() api.Term {
	var args []api.Term
	for _, word := range [...]string{"if", "then", "else"} {
		p.want(word)
		args = append(args, p.expr())
	}
	return api.Term{Kind: api.TermIf, Args: args}
}

func (p *parser) cases() api.Term {
	p.want("case")
	looked := p.expr()
	p.want("of")
	return api.Term{Kind: api.TermCase, Args: []api.Term{looked}, Alts: block(p, (*parser).branch)}
}

func (p *parser) branch() api.Branch {
	pat := p.pat()
	p.want("->")
	return api.Branch{Pat: pat, Body: p.expr()}
}

func (p *parser) termName() api.Term {
	return nameTerm(p.take(api.TokLower, api.TokQLower, api.TokUpper, api.TokQUpper))
}

func (p *parser) termInt() api.Term {
	return intTerm(p.take(api.TokInt, api.TokChar).Num)
}

func (p *parser) stringTerm() api.Term {
	text := p.take(api.TokString).Text
	parts := make([]api.Term, len(text))
	for i := range parts {
		parts[i] = intTerm(int(text[i]))
	}
	return termList(parts)
}

func (p *parser) listTerm() api.Term {
	p.want("[")
	var parts []api.Term
	if !p.sees("]") {
		parts = listed(p, api.MaxTokens, (*parser).expr)
	}
	p.want("]")
	return termList(parts)
}

// bracketed reads what round brackets hold: nothing, an operator, a section, an expression or a tuple.
func (p *parser) bracketed() api.Term {
	p.want("(")
	switch {
	case p.skip(")"):
		return conTerm(unitName)
	case p.seesOp():
		return p.operatorFirst()
	}
	row := []api.Term{p.operand()}
	for p.seesOp() {
		row = append(row, p.op())
		if p.skip(")") {
			return api.Term{Kind: api.TermLeft, Args: row}
		}
		row = append(row, p.operand())
	}
	return p.tuple(flat(row))
}

// operatorFirst reads what round brackets hold that begins with an operator, and the bracket that closes them.
func (p *parser) operatorFirst() api.Term {
	mayBeAlone := !p.sees("`")
	op := p.op()
	if mayBeAlone && p.skip(")") {
		return op
	}
	row := p.row(op, p.operand())
	p.want(")")
	return api.Term{Kind: api.TermRight, Args: row}
}

// tuple reads what of a tuple stands behind its first part; if nothing does, it is that part.
func (p *parser) tuple(first api.Term) api.Term {
	if p.skip(")") {
		return first
	}
	p.want(",")
	rest := listed(p, 2, (*parser).expr)
	p.want(")")
	t := apply(conTerm(tupleName(1+len(rest))), first)
	for _, part := range rest {
		t = apply(t, part)
	}
	return t
}

// nameTerm makes the term of a name or an operator.
func nameTerm(t api.Token) api.Term {
	if t.Kind == api.TokUpper || t.Kind == api.TokQUpper || t.Text == consName {
		return conTerm(t.Text)
	}
	return api.Term{Kind: api.TermVar, Name: t.Text}
}

func conTerm(name string) api.Term {
	return api.Term{Kind: api.TermCon, Name: name}
}

func intTerm(num int) api.Term {
	return api.Term{Kind: api.TermInt, Num: num}
}

func apply(function, argument api.Term) api.Term {
	return api.Term{Kind: api.TermApp, Args: []api.Term{function, argument}}
}

// flat makes one term of a row of operands and operators.
func flat(row []api.Term) api.Term {
	if len(row) == 1 {
		return row[0]
	}
	return api.Term{Kind: api.TermFlat, Args: row}
}

// termList makes the term of a list of these parts.
func termList(parts []api.Term) api.Term {
	l := conTerm(listName)
	for i := len(parts) - 1; i >= 0; i-- {
		l = apply(apply(conTerm(consName), parts[i]), l)
	}
	return l
}
