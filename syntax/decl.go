package syntax

import "sloth/api"

// declForms: how a declaration is read that begins with a token. Each is put into the module, and tells the limit that it is above, if it is.
func declForms() []form[api.Errno] {
	return []form[api.Errno]{
		{api.TokWord, "data", (*parser).data},
		{api.TokWord, "infixl", (*parser).fixity},
		{api.TokWord, "infixr", (*parser).fixity},
		{api.TokWord, "infix", (*parser).fixity},
		{api.TokLower, "", (*parser).value},
		{api.TokSpecial, "(", (*parser).value},
	}
}

// readModule reads all tokens as a module.
func (p *parser) readModule() {
	p.want("module")
	p.module.Name = p.take(api.TokUpper).Text
	p.want(";")
	for p.skip("import") {
		p.module.Imports = append(p.module.Imports, p.imported())
		p.want(";")
	}
	for p.next < len(p.tokens) {
		p.decl()
		p.want(";")
	}
}

// decl reads a declaration. The limits are told only when all tokens are known to be a module's, so the first fault of them is kept till then.
func (p *parser) decl() {
	at := p.peek().At
	code := one(p, p.decls)
	if code != api.OK && p.above == nil {
		p.above = &api.Fault{Code: code, At: at}
	}
}

func (p *parser) imported() api.Import {
	i := api.Import{Module: p.take(api.TokUpper).Text}
	if !p.skip("(") {
		return i
	}
	i.Some = true
	if !p.sees(")") {
		i.Names = listed(p, api.MaxTokens, (*parser).item)
	}
	p.want(")")
	return i
}

func (p *parser) item() string {
	if p.seesKind(api.TokUpper) {
		return p.take(api.TokUpper).Text
	}
	return p.name()
}

// name reads the name of a definition.
func (p *parser) name() string {
	if p.skip("(") {
		op := p.ownOp()
		p.want(")")
		return op
	}
	return p.take(api.TokLower).Text
}

// ownOp reads an operator that a source may give: any but the colon.
func (p *parser) ownOp() string {
	if p.sees(":") {
		p.giveUp()
	}
	return p.take(api.TokOp).Text
}

func (p *parser) data() api.Errno {
	p.want("data")
	d := api.Data{Name: p.take(api.TokUpper).Text}
	for p.seesKind(api.TokLower) {
		d.Params = append(d.Params, p.take(api.TokLower).Text)
	}
	p.want("=")
	d.Cons = append(d.Cons, p.con())
	for p.skip("|") {
		d.Cons = append(d.Cons, p.con())
	}
	p.module.Datas = append(p.module.Datas, d)
	return dataAbove(d)
}

func (p *parser) con() api.Con {
	name := p.take(api.TokUpper).Text
	return api.Con{Name: name, Fields: many(p, p.types)}
}

func (p *parser) fixity() api.Errno {
	assoc := assocOf(p.take(api.TokWord).Text)
	if p.peek().Num > 9 {
		p.giveUp()
	}
	level := p.take(api.TokInt).Num
	for _, op := range listed(p, api.MaxTokens, (*parser).fixed) {
		p.module.Fixes = append(p.module.Fixes, api.Fixity{Op: op, Assoc: assoc, Level: level})
	}
	return api.OK
}

func assocOf(word string) int {
	switch word {
	case "infixl":
		return api.AssocLeft
	case "infixr":
		return api.AssocRight
	}
	return api.AssocNone
}

// fixed reads an operator whose fixity is told.
func (p *parser) fixed() string {
	if !p.skip("`") {
		return p.ownOp()
	}
	name := p.take(api.TokLower).Text
	p.want("`")
	return name
}

// value reads a signature or a clause: which of them it is tells the token behind the name.
func (p *parser) value() api.Errno {
	name := p.name()
	if p.skip("::") {
		s := api.Sig{Name: name, Type: p.typ()}
		p.module.Sigs = append(p.module.Sigs, s)
		return typeAbove(s.Type)
	}
	c := p.clauseOf(name)
	p.module.Clauses = append(p.module.Clauses, c)
	return clauseAbove(c)
}

func (p *parser) clause() api.Clause {
	return p.clauseOf(p.name())
}

// clauseOf reads what of a clause stands behind its name.
func (p *parser) clauseOf(name string) api.Clause {
	c := api.Clause{Name: name, Pats: many(p, p.pats)}
	p.want("=")
	c.Body = p.expr()
	return c
}
