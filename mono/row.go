package mono

import (
	"sloth/api"
	"sloth/core"
)

// row is the instances that are needed, in the order in which they were laid.
type row struct {
	defs    map[string]*api.Def // of the program that was handed in
	names   []string            // of the instances
	laid    map[string]place    // where each stands
	waiting map[string]instance // those whose definition is still to be made
	made    api.Program         // it shares memory with what was handed in
	size    int                 // of what is made
}

// place is where an instance stands, and whose it is.
type place struct {
	def *api.Def
	at  int
}

func newRow(p api.Program) *row {
	r := &row{defs: make(map[string]*api.Def, len(p.Defs)), laid: map[string]place{}, waiting: map[string]instance{}}
	for i := range p.Defs {
		r.defs[p.Defs[i].Name] = &p.Defs[i]
	}
	r.made.Datas = p.Datas
	r.size = core.Size(r.made)
	return r
}

// all makes the entry, with Unit for each of its parameters, and all that it needs.
func (r *row) all(entry *api.Def) api.Errno {
	units := make([]api.Type, len(entry.Params))
	for i := range units {
		units[i] = api.Type{Kind: api.TyData, Name: "Unit"}
	}
	first := maker{row: r} // the entry is needed, though by no instance
	first.need(entry, units)
	code := first.code
	for i := 0; i < len(r.names) && code == api.OK; i++ {
		code = r.define(r.names[i])
	}
	return code
}

// define makes the definition of the instance whose turn has come, and lays what it needs.
func (r *row) define(name string) api.Errno {
	m := maker{row: r, instance: r.waiting[name]}
	delete(r.waiting, name)
	d := api.Def{Name: name, Type: m.Put(m.def.Type), Body: m.expr(&m.def.Body)}
	r.made.Defs = append(r.made.Defs, d)
	r.size += core.Size(api.Program{Defs: []api.Def{d}})
	if r.size > api.MaxCore {
		return api.ErrBig // ahead of what could not be laid
	}
	return m.code
}

// lay lays an instance of that name at the row's end.
func (r *row) lay(name string, in instance) api.Errno {
	_, isLaid := r.laid[name]
	switch {
	case isLaid:
		return api.ErrMonoName
	case len(r.names) == api.MaxCopies:
		return api.ErrMonoMany
	}
	r.laid[name] = place{def: in.def, at: len(r.names)}
	r.waiting[name] = in
	r.names = append(r.names, name)
	return api.OK
}
