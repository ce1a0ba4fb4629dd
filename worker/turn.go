package worker

import (
	"strconv"

	"sloth/api"
	"sloth/walk"
)

// turned is a program whose definitions are turned to be worked out. It shares memory with what was handed in, and within itself.
func turned(p api.Program, w world) api.Program {
	made := api.Program{Datas: p.Datas}
	for _, d := range p.Defs {
		t := turner{w, newNames(&d.Body)}
		d.Body = t.within(&d.Body)
		made.Defs = append(made.Defs, d)
	}
	return made
}

// newNames deals names that are bound nowhere in an expression. They are short, however long the names there are.
func newNames(e *api.Expr) func() string {
	taken := map[string]struct{}{}
	for name := range walk.Names(e) {
		taken[name] = struct{}{}
	}
	number := 0
	return func() string {
		for {
			number++
			name := "w" + strconv.Itoa(number)
			if _, isTaken := taken[name]; !isTaken {
				return name
			}
		}
	}
}

// turner turns the Body of one definition.
type turner struct {
	world
	newName func() string
}

// within turns what stands within the leading lambdas.
func (t turner) within(e *api.Expr) api.Expr {
	if e.Kind != api.ExprLam {
		return t.worked(e)
	}
	made := *e
	made.Args = []api.Expr{t.within(&e.Args[0])}
	return made
}

// worked turns an expression to be worked out.
func (t turner) worked(e *api.Expr) api.Expr {
	switch e.Kind {
	case api.ExprApp:
		return t.call(e)
	case api.ExprLet:
		return withParts(e, t.built, t.worked)
	}
	return withParts(e, t.worked, t.worked)
}

// built turns an expression to be built.
func (t turner) built(e *api.Expr) api.Expr {
	switch e.Kind {
	case api.ExprApp, api.ExprLet:
		return withParts(e, t.built, t.built)
	}
	return t.worked(e) // by whoever asks for it
}

// withParts is an expression whose Binds' Values are turned in one way, all its other parts in another one.
func withParts(e *api.Expr, value, part func(*api.Expr) api.Expr) api.Expr {
	made := *e
	made.Args, made.Binds, made.Alts = nil, nil, nil
	for _, b := range e.Binds {
		b.Value = value(&b.Value)
		made.Binds = append(made.Binds, b)
	}
	for i := range e.Args {
		made.Args = append(made.Args, part(&e.Args[i]))
	}
	for _, a := range e.Alts {
		a.Body = part(&a.Body)
		made.Alts = append(made.Alts, a)
	}
	return made
}

// call turns a spine to be worked out. What it needs is put around it when it is whole, the first outermost: each closure puts its own within those ahead.
func (t turner) call(e *api.Expr) api.Expr {
	head, args := walk.Spine(e)
	params := t.given(head, len(args))
	call := t.worked(head)
	around := func(inner api.Expr) api.Expr { return inner }
	next := t.next(params, args, 0)
	for i, a := range args {
		if i < next {
			call = apply(call, t.built(a))
			continue
		}
		b := api.Bind{Name: t.newName(), Type: params[i].typ, Value: t.worked(a)}
		call = apply(call, api.Expr{Kind: api.ExprVar, Name: b.Name})
		ahead := around
		around = func(inner api.Expr) api.Expr { return ahead(hard(b, inner)) }
		next = t.next(params, args, i+1)
	}
	return around(call)
}

func apply(f, argument api.Expr) api.Expr {
	return api.Expr{Kind: api.ExprApp, Args: []api.Expr{f, argument}}
}

func hard(b api.Bind, body api.Expr) api.Expr {
	return api.Expr{Kind: api.ExprHard, Binds: []api.Bind{b}, Args: []api.Expr{body}}
}
