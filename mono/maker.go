package mono

import "sloth/api"

// maker makes the definition of an instance, and lays in the row what that needs.
type maker struct {
	*row
	instance
	code api.Errno // of the first that could not be laid
}

func (m *maker) expr(e *api.Expr) api.Expr {
	if e.Kind == api.ExprGlobal {
		return api.Expr{Kind: e.Kind, Name: m.need(m.defs[e.Name], e.Types)}
	}
	made := api.Expr{Kind: e.Kind, Name: e.Name, Num: e.Num, Types: m.List(e.Types)}
	for _, b := range e.Binds {
		b.Type, b.Value = m.Put(b.Type), m.expr(&b.Value)
		made.Binds = append(made.Binds, b)
	}
	for i := range e.Args {
		made.Args = append(made.Args, m.expr(&e.Args[i]))
	}
	for _, a := range e.Alts {
		a.Body = m.expr(&a.Body)
		made.Alts = append(made.Alts, a)
	}
	return made
}

// need tells the name of the instance that is needed of a definition, with types that speak of this one's parameters. It is laid, if the row has it not; behind the first that could not be laid nothing is.
func (m *maker) need(d *api.Def, l []api.Type) string {
	if m.code != api.OK {
		return ""
	}
	name := m.name(d.Name, l)
	if len(name) > api.MaxName {
		m.code = api.ErrBig
		return ""
	}
	// instances of one definition and one name are the same, since no two lists of types have one text
	if p, isLaid := m.laid[string(name)]; isLaid && p.def == d {
		return m.names[p.at]
	}
	in, code := newInstance(d, m.List(l))
	if code == api.OK {
		code = m.lay(string(name), in)
	}
	m.code = code
	return string(name)
}
