package lift

import (
	"slices"
	"strconv"

	"sloth/api"
	"sloth/typed"
	"sloth/walk"
)

// lifter makes the answer.
type lifter struct {
	cons map[string]typed.Con
	defs map[string]api.Type // of the program that was handed in
	made api.Program         // it shares memory with what was handed in, and within itself
}

// lifted is a program whose inner functions have become definitions; false, if something in it is too great. (That may be left to be said of its Size.)
func lifted(p api.Program) (api.Program, bool) {
	if len(p.Defs)+inner(p) > api.MaxGlobals {
		return api.Program{}, false
	}
	k := &lifter{cons: typed.Cons(p.Datas), defs: make(map[string]api.Type, len(p.Defs)), made: api.Program{Datas: p.Datas}}
	for i := range p.Defs {
		k.defs[p.Defs[i].Name] = p.Defs[i].Type
	}
	for i := range p.Defs {
		if !k.define(&p.Defs[i]) {
			return api.Program{}, false
		}
	}
	return k.made, true
}

// define puts a definition, and those that its inner functions become, behind the others.
func (k *lifter) define(d *api.Def) bool {
	s := newSurvey(k, &d.Body)
	if !s.give() {
		return false
	}
	names := k.namesOf(d.Name)
	for _, f := range s.functions {
		f.name = names()
		f.call = callOf(f.name, f.given)
	}
	if !k.add(api.Def{Name: d.Name, Type: d.Type, Body: s.turned(&d.Body)}) {
		return false
	}
	for _, f := range s.functions {
		if !k.add(s.definition(f)) {
			return false
		}
	}
	return true
}

// namesOf deals the names of what the functions of a definition become.
func (k *lifter) namesOf(def string) func() string {
	number := 0
	return func() string {
		for {
			number++
			name := def + "$" + strconv.Itoa(number)
			if _, isTaken := k.defs[name]; !isTaken {
				return name
			}
		}
	}
}

// add puts a definition behind the others, if it is not too great.
func (k *lifter) add(d api.Def) bool {
	k.made.Defs = append(k.made.Defs, d)
	_, lambdas := walk.Body(&d.Body)
	return lambdas <= api.MaxArity && len(d.Name) <= api.MaxName && typed.Nodes(d.Type) <= api.MaxType
}

// callOf is the call of a function that has become a definition. It may stand in many places.
func callOf(name string, given []*local) api.Expr {
	call := api.Expr{Kind: api.ExprGlobal, Name: name}
	for _, l := range given {
		call = api.Expr{Kind: api.ExprApp, Args: []api.Expr{call, {Kind: api.ExprVar, Name: l.name}}}
	}
	return call
}

// definition is what a function becomes.
func (s *survey) definition(f *function) api.Def {
	body, types := s.turned(f.first), make([]api.Type, len(f.given))
	for i, l := range slices.Backward(f.given) {
		types[i] = s.localType(l)
		body = api.Expr{Kind: api.ExprLam, Binds: []api.Bind{{Name: l.name, Type: types[i]}}, Args: []api.Expr{body}}
	}
	return api.Def{Name: f.name, Type: typed.Function(types, s.functionType(f)), Body: body}
}

// turned is what a definition's Body, or a function, becomes: its own lambdas stay.
func (s *survey) turned(e *api.Expr) api.Expr {
	if e.Kind != api.ExprLam {
		return s.moved(e)
	}
	made := *e
	made.Args = []api.Expr{s.turned(&e.Args[0])}
	return made
}

// moved is an expression in which inner functions, and their names, have given place to their calls.
func (s *survey) moved(e *api.Expr) api.Expr {
	switch e.Kind {
	case api.ExprVar:
		if f := s.locals[e.Name].is; f != nil {
			return f.call
		}
	case api.ExprLam:
		return s.begins[e.Binds[0].Name].call
	}
	made := api.Expr{Kind: e.Kind, Name: e.Name, Num: e.Num, Types: e.Types, Binds: s.movedBinds(e.Binds)}
	for i := range e.Args {
		made.Args = append(made.Args, s.moved(&e.Args[i]))
	}
	for _, a := range e.Alts {
		a.Body = s.moved(&a.Body)
		made.Alts = append(made.Alts, a)
	}
	if e.Kind == api.ExprLet && len(made.Binds) == 0 {
		return made.Args[0]
	}
	return made
}

// movedBinds is what is left of the Binds of an ExprLet.
func (s *survey) movedBinds(binds []api.Bind) []api.Bind {
	var made []api.Bind
	for _, b := range binds {
		if s.locals[b.Name].is == nil {
			b.Value = s.moved(&b.Value)
			made = append(made, b)
		}
	}
	return made
}
