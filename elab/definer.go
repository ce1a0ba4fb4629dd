package elab

import (
	"sloth/api"
	"sloth/types"
	"sloth/typing"
)

// definer makes the body of one definition. The types that its calls are handed are those of the definition's group, in which its parameters have other names.
type definer struct {
	*world
	bounds []api.Bound
	own    map[string]int // the numbers of the definition's parameters, by their names in the group
	names  []string       // the parameters' names in the program
	locals map[string]int // what the locals of the place are called: the number of a new name; 0: there is no such local here
	made   int            // new names
	failed bool           // there are rows that may not be
}

// body makes a definition's body, and tells whether it has no rows that may not be.
func (w *world) body(bounds []api.Bound, f *typing.Function) (api.Expr, bool) {
	d := &definer{world: w, bounds: bounds, own: map[string]int{}, names: w.params[f.Name], locals: map[string]int{}}
	for i, name := range variablesOf(d.worth(f.Type)) {
		d.own[name] = i
	}
	e := d.function(f.Rows)
	return e, !d.failed
}

// worth is the type that a variable stands for.
func (d *definer) worth(variable api.Type) api.Type { return typing.Worth(d.bounds, variable) }

// typ makes a type of the program, in which only the definition's parameters are left.
func (d *definer) typ(t api.Type) api.Type {
	d.nodes++
	if d.isFull() {
		return api.Type{}
	}
	if t.Kind == api.TyVar {
		return d.variable(t.Name)
	}
	made := api.Type{Kind: t.Kind, Name: t.Name}
	for _, a := range t.Args {
		made.Args = append(made.Args, d.typ(a))
	}
	return made
}

func (d *definer) variable(name string) api.Type {
	if number, ok := d.own[name]; ok {
		return api.Type{Kind: api.TyVar, Name: d.names[number]}
	}
	return api.Type{Kind: api.TyData, Name: "Unit"}
}

// global is a definition at the type that it has here.
func (d *definer) global(name string, t api.Type) api.Expr {
	e := api.Expr{Kind: api.ExprGlobal, Name: name}
	found, _, _ := types.Instance(d.Values[name], t)
	for _, p := range d.params[name] {
		e.Types = append(e.Types, d.typ(typing.Worth(found, api.Type{Kind: api.TyVar, Name: p})))
	}
	return d.put(e)
}

// con is a constructor at the type that it has here.
func (d *definer) con(name string, t api.Type) api.Expr {
	for range d.cons[name].fields {
		t = t.Args[1]
	}
	e := api.Expr{Kind: api.ExprCon, Name: name}
	for _, a := range t.Args {
		e.Types = append(e.Types, d.typ(a))
	}
	return d.put(e)
}
