package lift_test

import (
	"fmt"
	"slices"
	"strings"

	"sloth/api"
	"sloth/builtin"
	"sloth/core"
)

// plain is a second form of Lift for one definition, by the chapter's words: names are sought and sets are made anew for each thing that is asked of them; types are those that core.Type tells.
type plain struct {
	api.Program
	def       api.Def
	locals    []api.Bind // in their order
	functions []plainFunction
}

type plainFunction struct {
	first api.Expr
	name  string     // of its Bind
	sight []api.Bind // the locals that are known where it stands
	given []string
	title string // the name of its definition
}

func plainLift(p api.Program) (api.Program, api.Errno) {
	if code := core.Check(p); code != api.OK {
		return api.Program{}, code
	}
	for _, d := range p.Defs {
		if len(d.Params) > 0 {
			return api.Program{}, api.ErrLiftPoly
		}
	}
	for _, d := range p.Defs {
		if count(d.Body, api.ExprHard) > 0 {
			return api.Program{}, api.ErrLiftHard
		}
	}
	q := api.Program{Datas: p.Datas}
	for _, d := range p.Defs {
		k := &plain{Program: p, def: d}
		k.look(d.Body, nil, true, "")
		k.give()
		k.entitle()
		q.Defs = append(q.Defs, api.Def{Name: d.Name, Type: d.Type, Body: k.turned(d.Body, true)})
		for _, f := range k.functions {
			q.Defs = append(q.Defs, k.definition(f))
		}
	}
	return q, plainWrong(q)
}

// plainWrong: is something above a limit?
func plainWrong(q api.Program) api.Errno {
	for _, d := range q.Defs {
		if n, _ := arity(d.Body); n > api.MaxArity || len(d.Name) > api.MaxName || nodes(d.Type) > api.MaxType {
			return api.ErrBig
		}
	}
	if len(q.Defs) > api.MaxGlobals || core.Size(q) > api.MaxCore {
		return api.ErrBig
	}
	for _, d := range q.Defs {
		if depth(d.Body) > api.MaxDeep {
			return api.ErrNest
		}
	}
	return api.OK
}

func depth(e api.Expr) int {
	n := 0
	for _, x := range parts(e) {
		n = max(n, depth(x))
	}
	if e.Kind == api.ExprLam {
		n = max(n, 1) // the zero Expr
	}
	return n + 1
}

// look gathers locals and functions: own says that a lambda here is an own one of what is around it.
func (k *plain) look(e api.Expr, sight []api.Bind, own bool, name string) {
	switch e.Kind {
	case api.ExprLam:
		if !own {
			k.functions = append(k.functions, plainFunction{first: e, name: name, sight: sight})
		}
		k.locals = append(k.locals, e.Binds...)
		k.look(e.Args[0], with(sight, e.Binds...), true, "")
	case api.ExprLet:
		k.locals = append(k.locals, e.Binds...)
		sight = with(sight, e.Binds...)
		for _, b := range e.Binds {
			k.look(b.Value, sight, false, b.Name)
		}
		k.look(e.Args[0], sight, false, "")
	case api.ExprCase:
		k.look(e.Args[0], sight, false, "")
		for _, a := range e.Alts {
			vars := k.vars(a, k.typeOf(e.Args[0], sight))
			k.locals = append(k.locals, vars...)
			k.look(a.Body, with(sight, vars...), false, "")
		}
	default:
		for _, x := range e.Args {
			k.look(x, sight, false, "")
		}
	}
}

func (k *plain) typeOf(e api.Expr, sight []api.Bind) api.Type {
	t, code := core.Type(k.Program, sight, e)
	if code != api.OK {
		panic(fmt.Sprint("the second form is wrong: ", code))
	}
	return t
}

// vars are the locals of an alternative, where something of that type is looked at.
func (k *plain) vars(a api.Alt, seen api.Type) []api.Bind {
	var l []api.Bind
	for _, d := range append(builtin.Datas(), k.Datas...) {
		for _, c := range d.Cons {
			for i, name := range a.Vars {
				if c.Name == a.Con {
					l = append(l, api.Bind{Name: name, Type: replaced(d.Params, seen.Args, c.Fields[i])})
				}
			}
		}
	}
	return l
}

// free tells the names that are spoken of in an expression and not bound in it.
func free(e api.Expr) []string {
	if e.Kind == api.ExprVar {
		return []string{e.Name}
	}
	var l []string
	for _, x := range parts(e) {
		l = append(l, free(x)...)
	}
	// no name is bound twice in a definition: so a name that is bound by an Alt or Bind here stands nowhere else
	bound := map[string]struct{}{}
	for _, b := range e.Binds {
		bound[b.Name] = struct{}{}
	}
	for _, a := range e.Alts {
		for _, name := range a.Vars {
			bound[name] = struct{}{}
		}
	}
	l = slices.DeleteFunc(l, func(name string) bool { _, ok := bound[name]; return ok })
	slices.Sort(l)
	return slices.Compact(l)
}

// named tells the function of that name.
func (k *plain) named(name string) *plainFunction {
	for i := range k.functions {
		if k.functions[i].name == name {
			return &k.functions[i]
		}
	}
	return nil
}

// give lets the sets grow till none does.
func (k *plain) give() {
	for grows := true; grows; {
		grows = false
		for i := range k.functions {
			f := &k.functions[i]
			for _, name := range free(f.first) {
				more := []string{name}
				if g := k.named(name); g != nil {
					more = g.given
				}
				for _, m := range more {
					if !slices.Contains(f.given, m) {
						f.given = append(slices.Clone(f.given), m)
						grows = true
					}
				}
			}
		}
	}
	for i := range k.functions {
		f := &k.functions[i]
		var l []string
		for _, b := range k.locals {
			if slices.Contains(f.given, b.Name) {
				l = append(l, b.Name)
			}
		}
		f.given = l
	}
}

func (k *plain) entitle() {
	number := 0
	for i := range k.functions {
		for k.functions[i].title == "" {
			number++
			title := fmt.Sprint(k.def.Name, "$", number)
			if !slices.ContainsFunc(k.Defs, func(d api.Def) bool { return d.Name == title }) {
				k.functions[i].title = title
			}
		}
	}
}

func (f *plainFunction) call() api.Expr {
	e := api.Expr{Kind: api.ExprGlobal, Name: f.title}
	for _, name := range f.given {
		e = app(e, api.Expr{Kind: api.ExprVar, Name: name})
	}
	return e
}

func (k *plain) definition(f plainFunction) api.Def {
	d := api.Def{Name: f.title, Type: k.typeOf(f.first, f.sight), Body: k.turned(f.first, true)}
	for _, name := range slices.Backward(f.given) {
		b := k.locals[slices.IndexFunc(k.locals, func(b api.Bind) bool { return b.Name == name })]
		d.Type = api.Type{Kind: api.TyFun, Args: []api.Type{b.Type, d.Type}}
		d.Body = api.Expr{Kind: api.ExprLam, Binds: []api.Bind{{Name: name, Type: b.Type}}, Args: []api.Expr{d.Body}}
	}
	return d
}

// turned is an expression in which functions have given place to their calls.
func (k *plain) turned(e api.Expr, own bool) api.Expr {
	switch {
	case e.Kind == api.ExprLam && own:
		e.Args = []api.Expr{k.turned(e.Args[0], true)}
		return e
	case e.Kind == api.ExprLam:
		at := slices.IndexFunc(k.functions, func(f plainFunction) bool { return f.first.Binds[0].Name == e.Binds[0].Name })
		return k.functions[at].call()
	case e.Kind == api.ExprVar && k.named(e.Name) != nil:
		return k.named(e.Name).call()
	}
	e.Args, e.Binds, e.Alts = slices.Clone(e.Args), slices.Clone(e.Binds), slices.Clone(e.Alts)
	e.Binds = slices.DeleteFunc(e.Binds, func(b api.Bind) bool { return b.Value.Kind == api.ExprLam })
	for i, b := range e.Binds {
		e.Binds[i].Value = k.turned(b.Value, false)
	}
	for i, x := range e.Args {
		e.Args[i] = k.turned(x, false)
	}
	for i, a := range e.Alts {
		e.Alts[i].Body = k.turned(a.Body, false)
	}
	if e.Kind == api.ExprLet && len(e.Binds) == 0 {
		return e.Args[0]
	}
	return e
}

// replaced is a type with others for its variables.
func replaced(params []string, args []api.Type, t api.Type) api.Type {
	if t.Kind == api.TyVar {
		return args[slices.Index(params, t.Name)]
	}
	t.Args = slices.Clone(t.Args)
	for i, a := range t.Args {
		t.Args[i] = replaced(params, args, a)
	}
	return t
}

func sameType(a, b api.Type) bool {
	return a.Kind == b.Kind && a.Name == b.Name && slices.EqualFunc(a.Args, b.Args, sameType)
}

func nodes(l ...api.Type) int {
	n := len(l)
	for _, t := range l {
		n += nodes(t.Args...)
	}
	return n
}

func with(l []api.Bind, b ...api.Bind) []api.Bind { return append(slices.Clone(l), b...) }

func app(f api.Expr, args ...api.Expr) api.Expr {
	for _, x := range args {
		f = api.Expr{Kind: api.ExprApp, Args: []api.Expr{f, x}}
	}
	return f
}

// whose tells the name of the definition from which one of an answer came: what stands ahead of the last $, if that is one of p.
func whose(p api.Program, name string) string {
	has := func(name string) bool {
		return slices.ContainsFunc(p.Defs, func(d api.Def) bool { return d.Name == name })
	}
	if at := strings.LastIndex(name, "$"); !has(name) && at >= 0 {
		name = name[:at]
	}
	return name
}
