package scope_test

import (
	"slices"
	"strings"

	"sloth/api"
	"sloth/syntax"
)

// plain is a second form of Bind, of texts that Parse takes: it goes through everything in the chapter's order, notes all faults, and makes new trees; what a name means it asks the declarations themselves.
type plain struct {
	modules []api.Module // in the order of the texts
	faults  []api.Fault
	in      api.Module // the one that is gone through
	about   string     // the Name of what is noted
}

func plainBind(sources []string) ([]api.Module, []api.Fixity, *api.Fault) {
	p := &plain{}
	for i, text := range sources {
		m, err := syntax.Parse(text)
		if err != nil {
			panic(err)
		}
		m.Text = i
		p.modules = append(p.modules, m)
	}
	p.links()
	if len(p.faults) > 0 {
		return nil, nil, &p.faults[0]
	}
	var out []api.Module
	var fixes []api.Fixity
	for _, m := range p.ordered() {
		p.in = m
		p.declarations()
		bound := p.bound()
		out = append(out, bound)
		fixes = append(fixes, bound.Fixes...)
	}
	if len(p.faults) > 0 {
		return nil, nil, &p.faults[0]
	}
	return out, fixes, nil
}

func (p *plain) note(wrong bool, code api.Errno) {
	if wrong {
		p.faults = append(p.faults, api.Fault{Code: code, Text: p.in.Text, At: -1, Name: p.about})
	}
}

func (p *plain) number(name string) int {
	return slices.IndexFunc(p.modules, func(m api.Module) bool { return m.Name == name })
}

// links: rules 3 to 5.
func (p *plain) links() {
	for i, m := range p.modules {
		p.in, p.about = m, m.Name
		p.note(p.number(m.Name) < i, api.ErrScopeModule)
	}
	for _, m := range p.modules {
		p.in = m
		for j, i := range m.Imports {
			p.about = i.Module
			p.note(p.number(i.Module) < 0 || i.Module == m.Name, api.ErrScopeModule)
			p.note(slices.ContainsFunc(m.Imports[:j], func(e api.Import) bool { return e.Module == i.Module }), api.ErrScopeTwice)
		}
	}
	for i, m := range p.modules {
		// Whoever comes back does so in as many steps as there are modules.
		here := []int{i}
		back := false
		for range p.modules {
			var next []int
			for j := range p.modules {
				if slices.ContainsFunc(here, func(h int) bool { return p.imports(h, j) }) {
					next = append(next, j)
				}
			}
			here = next
			back = back || slices.Contains(here, i)
		}
		p.in, p.about = m, m.Name
		p.note(back, api.ErrScopeCycle)
	}
}

func (p *plain) imports(i, j int) bool {
	return slices.ContainsFunc(p.modules[i].Imports, func(e api.Import) bool { return e.Module == p.modules[j].Name })
}

func (p *plain) ordered() []api.Module {
	rest := slices.Clone(p.modules)
	var out []api.Module
	for len(rest) > 0 {
		next := slices.IndexFunc(rest, func(m api.Module) bool {
			return !slices.ContainsFunc(m.Imports, func(i api.Import) bool {
				return slices.ContainsFunc(rest, func(r api.Module) bool { return r.Name == i.Module })
			})
		})
		out = append(out, rest[next])
		rest = slices.Delete(rest, next, next+1)
	}
	return out
}

// What names mean.

func isBuiltType(s string) bool  { return s == "Int" || s == "Bool" }
func isBuiltCon(s string) bool   { return s == "False" || s == "True" }
func isBuiltValue(s string) bool { return slices.Contains(builtValues, s) }

var builtValues = strings.Fields("+ - * / % == /= < <= > >= seq stop")

// meant is a name in the answer, and a number of parameters or fields.
type meant struct {
	name string
	size int
}

// own tells what a module gives under a name; kinds are 't', 'c' and 'v'.
func own(m api.Module, kind byte, name string) []meant {
	full := m.Name + "." + name
	for _, d := range m.Datas {
		if kind == 't' && d.Name == name {
			return []meant{{full, len(d.Params)}}
		}
		for _, c := range d.Cons {
			if kind == 'c' && c.Name == name {
				return []meant{{full, len(c.Fields)}}
			}
		}
	}
	for _, c := range m.Clauses {
		if kind == 'v' && c.Name == name {
			return []meant{{full, 0}}
		}
	}
	return nil
}

var (
	builtTypes = strings.Fields("Int #Int 0 Bool Bool 0 [] List 1 () Unit 0 (,) Pair 2 (,,) Triple 3")
	builtCons  = strings.Fields("False False 0 True True 0 : Cons 2 [] Nil 0 () Unit 0 (,) Pair 2 (,,) Triple 3")
)

func builtMeaning(kind byte, name string) []meant {
	words := builtTypes
	switch {
	case kind == 'v' && isBuiltValue(name):
		return []meant{{name, 0}}
	case kind == 'v':
		return nil
	case kind == 'c':
		words = builtCons
	}
	for i := 0; i < len(words); i += 3 {
		if words[i] == name {
			return []meant{{words[i+1], int(words[i+2][0] - '0')}}
		}
	}
	return nil
}

func (p *plain) listed(i api.Import, kind byte, name string) []meant {
	if i.Some && !slices.Contains(i.Names, name) {
		return nil
	}
	return own(p.modules[p.number(i.Module)], kind, name)
}

// all tells all that a name can mean outside all locals.
func (p *plain) all(kind byte, name string) []meant {
	var l []meant
	if name[0] >= 'A' && name[0] <= 'Z' && strings.Contains(name, ".") {
		parts := strings.SplitN(name, ".", 2)
		if parts[0] == p.in.Name {
			l = own(p.in, kind, parts[1])
		}
		for _, i := range p.in.Imports {
			if i.Module == parts[0] {
				l = append(l, p.listed(i, kind, parts[1])...)
			}
		}
		return l
	}
	if l = own(p.in, kind, name); len(l) > 0 {
		return l
	}
	if l = builtMeaning(kind, name); len(l) > 0 {
		return l
	}
	for _, i := range p.in.Imports {
		l = append(l, p.listed(i, kind, name)...)
	}
	return l
}

// one tells what a name means, and notes if that is nothing or two things.
func (p *plain) one(kind byte, name string) meant {
	l := p.all(kind, name)
	p.note(len(l) == 0, api.ErrScopeName)
	p.note(len(l) > 1, api.ErrScopeTwo)
	if len(l) == 1 {
		return l[0]
	}
	return meant{"nothing", -1}
}

// Rounds 6 to 10.

func (p *plain) declarations() {
	m := p.in
	for _, i := range m.Imports {
		given := p.modules[p.number(i.Module)]
		for _, item := range i.Names {
			p.about = item
			capital := item[0] >= 'A' && item[0] <= 'Z'
			p.note(capital && own(given, 't', item) == nil && own(given, 'c', item) == nil, api.ErrScopeName)
			p.note(!capital && own(given, 'v', item) == nil, api.ErrScopeName)
		}
	}
	p.datas()
	for i, c := range m.Clauses {
		p.about = c.Name
		p.clause(m.Clauses[:i], c, func() {
			p.note(len(m.Name)+1+len(c.Name) > api.MaxName, api.ErrBig)
		})
	}
	for i, f := range m.Fixes {
		p.about = f.Op
		p.note(own(m, 'v', f.Op) == nil, api.ErrScopeFix)
		p.note(slices.ContainsFunc(m.Fixes[:i], func(e api.Fixity) bool { return e.Op == f.Op }), api.ErrScopeTwice)
	}
	for i, s := range m.Sigs {
		p.about = s.Name
		p.note(own(m, 'v', s.Name) == nil, api.ErrScopeName)
		p.note(slices.ContainsFunc(m.Sigs[:i], func(e api.Sig) bool { return e.Name == s.Name }), api.ErrScopeTwice)
	}
}

func (p *plain) datas() {
	var types, cons []string
	for _, d := range p.in.Datas {
		p.about = d.Name
		p.note(isBuiltType(d.Name) || slices.Contains(types, d.Name), api.ErrScopeTwice)
		p.note(len(p.in.Name+"."+d.Name) > api.MaxName, api.ErrBig)
		p.note(len(d.Params) > api.MaxParams, api.ErrScopeArity)
		for i, param := range d.Params {
			p.note(slices.Contains(d.Params[:i], param), api.ErrScopeTwice)
			p.note(len(param) > api.MaxName, api.ErrBig)
		}
		p.note(len(d.Cons) > api.MaxCons, api.ErrScopeArity)
		types = append(types, d.Name)
		for _, c := range d.Cons {
			p.about = c.Name
			p.note(isBuiltCon(c.Name) || slices.Contains(cons, c.Name), api.ErrScopeTwice)
			p.note(len(p.in.Name+"."+c.Name) > api.MaxName, api.ErrBig)
			p.note(len(c.Fields) > api.MaxFields, api.ErrScopeArity)
			cons = append(cons, c.Name)
		}
	}
}

// clause: round 8, of a clause with those ahead of it.
func (p *plain) clause(ahead []api.Clause, c api.Clause, length func()) {
	side := 0 // clauses of the same definition ahead
	for side < len(ahead) && ahead[len(ahead)-1-side].Name == c.Name {
		side++
	}
	if side == 0 {
		p.note(isBuiltValue(c.Name), api.ErrScopeTwice)
		p.note(slices.ContainsFunc(ahead, func(e api.Clause) bool { return e.Name == c.Name }), api.ErrScopeTwice)
		length()
	}
	p.note(len(c.Pats) > api.MaxColumns, api.ErrScopeArity)
	p.note(side > 0 && len(c.Pats) != len(ahead[max(len(ahead)-1, 0)].Pats), api.ErrScopeArity)
	p.note(side >= api.MaxRows, api.ErrScopeArity)
}

// Rounds 11 and 12, and the answer.

func (p *plain) bound() api.Module {
	m := p.in
	full := func(name string) string { return m.Name + "." + name }
	out := api.Module{Text: m.Text, Name: m.Name, Imports: m.Imports}
	for _, d := range m.Datas {
		p.about = d.Name
		e := api.Data{Name: full(d.Name), Params: d.Params}
		for _, c := range d.Cons {
			f := api.Con{Name: full(c.Name)}
			for _, t := range c.Fields {
				f.Fields = append(f.Fields, p.typ(t, func(v string) {
					p.note(!slices.Contains(d.Params, v), api.ErrScopeType)
				}))
			}
			e.Cons = append(e.Cons, f)
		}
		out.Datas = append(out.Datas, e)
	}
	for _, f := range m.Fixes {
		out.Fixes = append(out.Fixes, api.Fixity{Op: full(f.Op), Assoc: f.Assoc, Level: f.Level})
	}
	for _, s := range m.Sigs {
		p.about = s.Name
		t := p.typ(s.Type, func(v string) { p.note(len(v) > api.MaxName, api.ErrBig) })
		out.Sigs = append(out.Sigs, api.Sig{Name: full(s.Name), Type: t})
	}
	for _, c := range m.Clauses {
		p.about = c.Name
		c = p.lines(nil, c)
		c.Name = full(c.Name)
		out.Clauses = append(out.Clauses, c)
	}
	return out
}

func (p *plain) typ(t api.Type, variable func(string)) api.Type {
	out := api.Type{Kind: t.Kind, Name: t.Name}
	switch t.Kind {
	case api.TyVar:
		variable(t.Name)
	case api.TyData:
		means := p.one('t', t.Name)
		p.note(means.size != len(t.Args), api.ErrScopeType)
		out.Name = means.name
		if means.name == "#Int" {
			out = api.Type{Kind: api.TyInt}
		}
	}
	for _, a := range t.Args {
		out.Args = append(out.Args, p.typ(a, variable))
	}
	return out
}

// row tells the patterns of a row, and the variables in it.
func (p *plain) row(pats []api.Pat) (out []api.Pat, names []string) {
	var walk func(api.Pat) api.Pat
	walk = func(x api.Pat) api.Pat {
		out := api.Pat{Kind: x.Kind, Name: x.Name, Num: x.Num}
		switch x.Kind {
		case api.PatVar:
			p.note(isBuiltValue(x.Name) || slices.Contains(names, x.Name), api.ErrScopeTwice)
			names = append(names, x.Name)
		case api.PatCon:
			means := p.one('c', x.Name)
			p.note(means.size != len(x.Args), api.ErrScopeArity)
			out.Name = means.name
		}
		for _, a := range x.Args {
			out.Args = append(out.Args, walk(a))
		}
		return out
	}
	for _, x := range pats {
		out = append(out, walk(x))
	}
	return out, names
}

// lines tells a clause with its row and body. Its name stays.
func (p *plain) lines(locals []string, c api.Clause) api.Clause {
	pats, names := p.row(c.Pats)
	return api.Clause{Name: c.Name, Pats: pats, Body: p.term(slices.Concat(locals, names), c.Body)}
}

func (p *plain) term(locals []string, t api.Term) api.Term {
	out := api.Term{Kind: t.Kind, Name: t.Name, Num: t.Num}
	switch t.Kind {
	case api.TermVar:
		if !slices.Contains(locals, t.Name) {
			out.Name = p.one('v', t.Name).name
		}
	case api.TermCon:
		out.Name = p.one('c', t.Name).name
	case api.TermLam:
		p.note(len(t.Pats) > api.MaxColumns, api.ErrScopeArity)
		c := p.lines(locals, api.Clause{Pats: t.Pats, Body: t.Args[0]})
		out.Pats, out.Args = c.Pats, []api.Term{c.Body}
		return out
	case api.TermLet:
		for i, c := range t.Clauses {
			p.clause(t.Clauses[:i], c, func() {})
		}
		for _, c := range t.Clauses {
			locals = append(slices.Clone(locals), c.Name)
		}
		for _, c := range t.Clauses {
			out.Clauses = append(out.Clauses, p.lines(locals, c))
		}
	case api.TermCase:
		p.note(len(t.Alts) > api.MaxRows, api.ErrScopeArity)
	}
	for _, a := range t.Args {
		out.Args = append(out.Args, p.term(locals, a))
	}
	for _, b := range t.Alts {
		c := p.lines(locals, api.Clause{Pats: []api.Pat{b.Pat}, Body: b.Body})
		out.Alts = append(out.Alts, api.Branch{Pat: c.Pats[0], Body: c.Body})
	}
	return out
}
