package scope

import "sloth/api"

// bindRow puts names in the place of what they mean: in a row of patterns, then in the body behind it, in which the row's variables are locals.
func bindRow(around scope, row []api.Pat, body *api.Term) api.Errno {
	in := newLocals(around)
	for i := range row {
		if code := in.bindPat(&row[i]); code != api.OK {
			return code
		}
	}
	return in.bindTerm(body)
}

func (in *locals) bindPat(p *api.Pat) api.Errno {
	code := api.OK
	switch p.Kind {
	case api.PatVar:
		code = in.add(p.Name)
	case api.PatCon:
		code = in.bindPatCon(p)
	}
	for i := 0; i < len(p.Args) && code == api.OK; i++ {
		code = in.bindPat(&p.Args[i])
	}
	return code
}

func (in *locals) bindPatCon(p *api.Pat) api.Errno {
	found, code := in.con(p.Name)
	if code != api.OK {
		return code
	}
	if len(p.Args) != found.size {
		return api.ErrScopeArity
	}
	p.Name = found.name
	return api.OK
}

func (in *locals) bindTerm(t *api.Term) api.Errno {
	switch t.Kind {
	case api.TermVar:
		found, code := in.value(t.Name)
		t.Name = found.name
		return code
	case api.TermCon:
		found, code := in.con(t.Name)
		t.Name = found.name
		return code
	case api.TermLam:
		return in.bindLambda(t)
	case api.TermLet:
		return in.bindLet(t)
	case api.TermCase:
		return in.bindCase(t)
	}
	return in.bindTerms(t.Args)
}

func (in *locals) bindTerms(l []api.Term) api.Errno {
	for i := range l {
		if code := in.bindTerm(&l[i]); code != api.OK {
			return code
		}
	}
	return api.OK
}

func (in *locals) bindLambda(t *api.Term) api.Errno {
	if len(t.Pats) > api.MaxColumns {
		return api.ErrScopeArity
	}
	return bindRow(in, t.Pats, &t.Args[0])
}

func (in *locals) bindLet(t *api.Term) api.Errno {
	inner := newLocals(in)
	if _, code := define(t.Clauses, inner.add); code != api.OK {
		return code
	}
	for i := range t.Clauses {
		c := &t.Clauses[i]
		if code := bindRow(inner, c.Pats, &c.Body); code != api.OK {
			return code
		}
	}
	return inner.bindTerms(t.Args)
}

func (in *locals) bindCase(t *api.Term) api.Errno {
	if len(t.Alts) > api.MaxRows {
		return api.ErrScopeArity
	}
	if code := in.bindTerms(t.Args); code != api.OK {
		return code
	}
	for i := range t.Alts {
		if code := bindAlt(in, &t.Alts[i]); code != api.OK {
			return code
		}
	}
	return api.OK
}

func bindAlt(around scope, alt *api.Branch) api.Errno {
	in := newLocals(around)
	if code := in.bindPat(&alt.Pat); code != api.OK {
		return code
	}
	return in.bindTerm(&alt.Body)
}
