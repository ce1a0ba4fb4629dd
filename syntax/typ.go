package syntax

import "sloth/api"

// The names that no token has: of lists, of nothing, and of tuples.
const (
	listName   = "[]"
	unitName   = "()"
	pairName   = "(,)"
	tripleName = "(,,)"
	consName   = ":"
)

// tupleName tells the constructor of a tuple of two or three parts.
func tupleName(parts int) string {
	if parts == 2 {
		return pairName
	}
	return tripleName
}

// typeForms: how a type is read that may stand as an argument.
func typeForms() []form[api.Type] {
	return []form[api.Type]{
		{api.TokLower, "", (*parser).typeVar},
		{api.TokUpper, "", (*parser).typeCon},
		{api.TokQUpper, "", (*parser).typeCon},
		{api.TokSpecial, "[", (*parser).listType},
		{api.TokSpecial, "(", (*parser).tupleType},
	}
}

func (p *parser) typ() api.Type {
	t := p.applied()
	if !p.skip("->") {
		return t
	}
	return api.Type{Kind: api.TyFun, Args: []api.Type{t, p.typ()}}
}

// applied reads a type in which no arrow stands but in brackets.
func (p *parser) applied() api.Type {
	if !p.seesKind(api.TokUpper, api.TokQUpper) {
		return one(p, p.types)
	}
	t := p.typeCon()
	t.Args = many(p, p.types)
	return t
}

func (p *parser) typeVar() api.Type {
	return api.Type{Kind: api.TyVar, Name: p.take(api.TokLower).Text}
}

func (p *parser) typeCon() api.Type {
	return api.Type{Kind: api.TyData, Name: p.take(api.TokUpper, api.TokQUpper).Text}
}

func (p *parser) listType() api.Type {
	p.want("[")
	t := p.typ()
	p.want("]")
	return api.Type{Kind: api.TyData, Name: listName, Args: []api.Type{t}}
}

func (p *parser) tupleType() api.Type {
	p.want("(")
	if p.skip(")") {
		return api.Type{Kind: api.TyData, Name: unitName}
	}
	parts := listed(p, 3, (*parser).typ)
	p.want(")")
	if len(parts) == 1 {
		return parts[0]
	}
	return api.Type{Kind: api.TyData, Name: tupleName(len(parts)), Args: parts}
}
