package syntax

import "sloth/api"

// patForms: how a pattern is read that may stand as an argument.
func patForms() []form[api.Pat] {
	return []form[api.Pat]{
		{api.TokLower, "", (*parser).patVar},
		{api.TokSpecial, "_", (*parser).patWild},
		{api.TokInt, "", (*parser).patInt},
		{api.TokChar, "", (*parser).patInt},
		{api.TokString, "", (*parser).stringPat},
		{api.TokUpper, "", (*parser).patCon},
		{api.TokQUpper, "", (*parser).patCon},
		{api.TokSpecial, "(", (*parser).tuplePat},
		{api.TokSpecial, "[", (*parser).listPat},
	}
}

func (p *parser) pat() api.Pat {
	first := p.filled()
	if !p.skip(":") {
		return first
	}
	return consPat(first, p.pat())
}

// filled reads a pattern in which no colon stands but in brackets.
func (p *parser) filled() api.Pat {
	if !p.seesKind(api.TokUpper, api.TokQUpper) {
		return one(p, p.pats)
	}
	c := p.patCon()
	c.Args = many(p, p.pats)
	return c
}

func (p *parser) patVar() api.Pat {
	return api.Pat{Kind: api.PatVar, Name: p.take(api.TokLower).Text}
}

func (p *parser) patWild() api.Pat {
	p.want("_")
	return api.Pat{Kind: api.PatWild}
}

func (p *parser) patInt() api.Pat {
	return intPat(p.take(api.TokInt, api.TokChar).Num)
}

func (p *parser) patCon() api.Pat {
	return api.Pat{Kind: api.PatCon, Name: p.take(api.TokUpper, api.TokQUpper).Text}
}

func (p *parser) stringPat() api.Pat {
	text := p.take(api.TokString).Text
	parts := make([]api.Pat, len(text))
	for i := range parts {
		parts[i] = intPat(int(text[i]))
	}
	return patList(parts)
}

func (p *parser) listPat() api.Pat {
	p.want("[")
	var parts []api.Pat
	if !p.sees("]") {
		parts = listed(p, api.MaxTokens, (*parser).pat)
	}
	p.want("]")
	return patList(parts)
}

func (p *parser) tuplePat() api.Pat {
	p.want("(")
	if p.skip(")") {
		return api.Pat{Kind: api.PatCon, Name: unitName}
	}
	parts := listed(p, 3, (*parser).pat)
	p.want(")")
	if len(parts) == 1 {
		return parts[0]
	}
	return api.Pat{Kind: api.PatCon, Name: tupleName(len(parts)), Args: parts}
}

func intPat(num int) api.Pat {
	return api.Pat{Kind: api.PatInt, Num: num}
}

func consPat(first, rest api.Pat) api.Pat {
	return api.Pat{Kind: api.PatCon, Name: consName, Args: []api.Pat{first, rest}}
}

// patList makes the pattern of a list of just these parts.
func patList(parts []api.Pat) api.Pat {
	l := api.Pat{Kind: api.PatCon, Name: listName}
	for i := len(parts) - 1; i >= 0; i-- {
		l = consPat(parts[i], l)
	}
	return l
}
