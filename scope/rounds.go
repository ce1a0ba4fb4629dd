package scope

import "sloth/api"

// bind goes through the module in rounds, each whole ahead of the next. With a fault it tells the name that it is about.
func (o *outer) bind() (string, api.Errno) {
	for _, round := range [...]func(*outer) (string, api.Errno){
		(*outer).items, (*outer).datas, (*outer).clauses, (*outer).fixities, (*outer).signatures, (*outer).types, (*outer).bodies,
	} {
		if name, code := round(o); code != api.OK {
			return name, code
		}
	}
	return "", api.OK
}

func (o *outer) items() (string, api.Errno) {
	for _, v := range o.views {
		for _, item := range v.Names {
			if !v.gives(item) {
				return item, api.ErrScopeName
			}
		}
	}
	return "", api.OK
}

func (o *outer) datas() (string, api.Errno) {
	for _, d := range o.module.Datas {
		if code := o.giveData(d); code != api.OK {
			return d.Name, code
		}
		for _, c := range d.Cons {
			if code := o.giveCon(c); code != api.OK {
				return c.Name, code
			}
		}
	}
	return "", api.OK
}

func (o *outer) giveData(d api.Data) api.Errno {
	if code := o.give(aType, d.Name, len(d.Params)); code != api.OK {
		return code
	}
	if len(d.Params) > api.MaxParams {
		return api.ErrScopeArity
	}
	seen := make(map[string]int, len(d.Params))
	for _, param := range d.Params {
		if seen[param]++; seen[param] > 1 {
			return api.ErrScopeTwice
		}
		if len(param) > api.MaxName {
			return api.ErrBig
		}
	}
	if len(d.Cons) > api.MaxCons {
		return api.ErrScopeArity
	}
	return api.OK
}

func (o *outer) giveCon(c api.Con) api.Errno {
	if code := o.give(aCon, c.Name, len(c.Fields)); code != api.OK {
		return code
	}
	if len(c.Fields) > api.MaxFields {
		return api.ErrScopeArity
	}
	return api.OK
}

// give takes a name that the module gives to a thing.
func (o *outer) give(kind int, name string, size int) api.Errno {
	if o.built.has(kind, name) || o.own.has(kind, name) {
		return api.ErrScopeTwice
	}
	full := o.module.Name + "." + name
	if len(full) > api.MaxName {
		return api.ErrBig
	}
	o.own[key{kind, name}] = thing{full, size}
	return api.OK
}

func (o *outer) clauses() (string, api.Errno) {
	return define(o.module.Clauses, func(name string) api.Errno {
		return o.give(aValue, name, 0)
	})
}

// define goes through the clauses of a module or of a let; the name of each definition is given by its first clause. With a fault it tells the clause's name.
func define(clauses []api.Clause, give func(name string) api.Errno) (string, api.Errno) {
	ahead := 0
	for i, c := range clauses {
		if i == 0 || clauses[i-1].Name != c.Name {
			ahead = 0
			if code := give(c.Name); code != api.OK {
				return c.Name, code
			}
		}
		if len(c.Pats) > api.MaxColumns || ahead == api.MaxRows || ahead > 0 && len(c.Pats) != len(clauses[i-1].Pats) {
			return c.Name, api.ErrScopeArity
		}
		ahead++
	}
	return "", api.OK
}

func (o *outer) fixities() (string, api.Errno) {
	seen := make(map[string]int, len(o.module.Fixes))
	for _, f := range o.module.Fixes {
		if code := o.tellOnce(f.Op, seen, api.ErrScopeFix); code != api.OK {
			return f.Op, code
		}
	}
	return "", api.OK
}

func (o *outer) signatures() (string, api.Errno) {
	seen := make(map[string]int, len(o.module.Sigs))
	for _, s := range o.module.Sigs {
		if code := o.tellOnce(s.Name, seen, api.ErrScopeName); code != api.OK {
			return s.Name, code
		}
	}
	return "", api.OK
}

// tellOnce looks at the name of a definition of which something is told, once at most; if there is none, the answer is missing.
func (o *outer) tellOnce(name string, seen map[string]int, missing api.Errno) api.Errno {
	if !o.own.has(aValue, name) {
		return missing
	}
	if seen[name]++; seen[name] > 1 {
		return api.ErrScopeTwice
	}
	return api.OK
}

func (o *outer) types() (string, api.Errno) {
	for _, d := range o.module.Datas {
		if code := o.fields(d); code != api.OK {
			return d.Name, code
		}
	}
	for i := range o.module.Sigs {
		s := &o.module.Sigs[i]
		if code := o.bindType(&s.Type, shortName); code != api.OK {
			return s.Name, code
		}
	}
	return "", api.OK
}

// shortName is asked of the variables of a signature, of which nothing else is asked.
func shortName(variable string) api.Errno {
	if len(variable) > api.MaxName {
		return api.ErrBig
	}
	return api.OK
}

func (o *outer) fields(d api.Data) api.Errno {
	params := make(map[string]int, len(d.Params))
	for _, param := range d.Params {
		params[param]++
	}
	isParam := func(variable string) api.Errno {
		if params[variable] == 0 {
			return api.ErrScopeType
		}
		return api.OK
	}
	for _, c := range d.Cons {
		for i := range c.Fields {
			if code := o.bindType(&c.Fields[i], isParam); code != api.OK {
				return code
			}
		}
	}
	return api.OK
}

// bindType puts the names of types in a type in the place of what they mean.
func (o *outer) bindType(t *api.Type, variable func(name string) api.Errno) api.Errno {
	code := api.OK
	switch t.Kind {
	case api.TyVar:
		code = variable(t.Name)
	case api.TyData:
		code = o.bindTypeName(t)
	}
	for i := 0; i < len(t.Args) && code == api.OK; i++ {
		code = o.bindType(&t.Args[i], variable)
	}
	return code
}

func (o *outer) bindTypeName(t *api.Type) api.Errno {
	found, code := o.typ(t.Name)
	if code != api.OK {
		return code
	}
	if len(t.Args) != found.size {
		return api.ErrScopeType
	}
	t.Name = found.name
	if t.Name == intName {
		*t = api.Type{Kind: api.TyInt}
	}
	return api.OK
}

func (o *outer) bodies() (string, api.Errno) {
	for i := range o.module.Clauses {
		c := &o.module.Clauses[i]
		if code := bindRow(o, c.Pats, &c.Body); code != api.OK {
			return c.Name, code
		}
	}
	return "", api.OK
}

// nameOwn puts the names of the module's own things, where they are given, in the place of what they mean. Till then faults are told of them as they stand in the text.
func (o *outer) nameOwn() {
	m := o.module
	for i := range m.Datas {
		d := &m.Datas[i]
		o.name(aType, &d.Name)
		for j := range d.Cons {
			o.name(aCon, &d.Cons[j].Name)
		}
	}
	for i := range m.Fixes {
		o.name(aValue, &m.Fixes[i].Op)
	}
	for i := range m.Sigs {
		o.name(aValue, &m.Sigs[i].Name)
	}
	for i := range m.Clauses {
		o.name(aValue, &m.Clauses[i].Name)
	}
}

func (o *outer) name(kind int, name *string) {
	*name = o.own[key{kind, *name}].name
}
