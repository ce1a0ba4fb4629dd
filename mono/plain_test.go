package mono_test

import (
	"slices"
	"strings"

	"sloth/api"
	"sloth/core"
	"sloth/types"
)

// plain is a second form of Mono, by the chapter's words: instances with all their types, gone through again for each thing that is asked of them.
type plain struct {
	api.Program
	row []plainInstance
}

type plainInstance struct {
	name  string // the definition's
	types []api.Type
}

func (in plainInstance) isOne(other plainInstance) bool {
	return in.name == other.name && slices.EqualFunc(in.types, other.types, sameType)
}

// title is the name of an instance whose types have no more than MaxType nodes.
func (in plainInstance) title() string {
	if len(in.types) == 0 {
		return in.name
	}
	texts := make([]string, len(in.types))
	for i, t := range in.types {
		text, code := types.Print(t)
		if code == api.ErrBig {
			text = strings.Repeat("?", api.MaxText+1)
		} else if code != api.OK {
			panic(code)
		}
		texts[i] = text
	}
	return in.name + "{" + strings.Join(texts, ",") + "}"
}

func plainMono(p api.Program, entry string) (api.Program, api.Errno) {
	if code := core.Check(p); code != api.OK {
		return api.Program{}, code
	}
	k := &plain{Program: p}
	at := slices.IndexFunc(p.Defs, func(d api.Def) bool { return d.Name == entry })
	if at < 0 {
		return api.Program{}, api.ErrMonoEntry
	}
	first := plainInstance{name: entry}
	for range p.Defs[at].Params {
		first.types = append(first.types, typ("Unit"))
	}
	if code := k.lay(first); code != api.OK {
		return api.Program{}, code
	}
	q := api.Program{Datas: p.Datas}
	for i := 0; i < len(k.row); i++ {
		d, needs := k.definition(k.row[i])
		q.Defs = append(q.Defs, d)
		if core.Size(q) > api.MaxCore {
			return api.Program{}, api.ErrBig
		}
		for _, in := range needs {
			if slices.ContainsFunc(k.row, in.isOne) {
				continue
			}
			if code := k.lay(in); code != api.OK {
				return api.Program{}, code
			}
		}
	}
	if core.Check(q) != api.OK {
		return api.Program{}, api.ErrBig
	}
	return q, api.OK
}

func (k *plain) lay(in plainInstance) api.Errno {
	if slices.ContainsFunc(in.types, func(t api.Type) bool { return nodes(t) > api.MaxType }) {
		return api.ErrBig
	}
	title := in.title()
	if len(title) > api.MaxName {
		return api.ErrBig
	}
	if slices.ContainsFunc(k.row, func(other plainInstance) bool { return other.title() == title }) {
		return api.ErrMonoName
	}
	if len(k.row) >= api.MaxCopies {
		return api.ErrMonoMany
	}
	k.row = append(k.row, in)
	return api.OK
}

// definition is that of an instance, and what it needs.
func (k *plain) definition(in plainInstance) (api.Def, []plainInstance) {
	d := k.Defs[slices.IndexFunc(k.Defs, func(d api.Def) bool { return d.Name == in.name })]
	body := turned(d.Body, func(t api.Type) api.Type { return replaced(d.Params, in.types, t) })
	needs := needsOf(body)
	named := turnedGlobals(body, func(e api.Expr) api.Expr {
		return api.Expr{Kind: api.ExprGlobal, Name: plainInstance{e.Name, e.Types}.title()}
	})
	return api.Def{Name: in.title(), Type: replaced(d.Params, in.types, d.Type), Body: named}, needs
}

// needsOf tells the instances that an expression speaks of, in the order in which they stand.
func needsOf(e api.Expr) []plainInstance {
	if e.Kind == api.ExprGlobal {
		return []plainInstance{{e.Name, e.Types}}
	}
	var l []plainInstance
	for _, x := range parts(e) {
		l = append(l, needsOf(x)...)
	}
	return l
}

// turned is an expression whose types have given place.
func turned(e api.Expr, turn func(api.Type) api.Type) api.Expr {
	e = mapped(e, func(x api.Expr) api.Expr { return turned(x, turn) })
	e.Types = slices.Clone(e.Types)
	for i, t := range e.Types {
		e.Types[i] = turn(t)
	}
	for i, b := range e.Binds {
		e.Binds[i].Type = turn(b.Type)
	}
	return e
}

// turnedGlobals is an expression whose ExprGlobals have given place.
func turnedGlobals(e api.Expr, turn func(api.Expr) api.Expr) api.Expr {
	if e.Kind == api.ExprGlobal {
		return turn(e)
	}
	return mapped(e, func(x api.Expr) api.Expr { return turnedGlobals(x, turn) })
}

// mapped is an expression whose parts have given place.
func mapped(e api.Expr, turn func(api.Expr) api.Expr) api.Expr {
	e.Args, e.Binds, e.Alts = slices.Clone(e.Args), slices.Clone(e.Binds), slices.Clone(e.Alts)
	for i, x := range e.Args {
		e.Args[i] = turn(x)
	}
	for i, b := range e.Binds {
		e.Binds[i].Value = turn(b.Value)
	}
	for i, a := range e.Alts {
		e.Alts[i].Body = turn(a.Body)
	}
	return e
}

// replaced is a type with others for its variables, however great it becomes.
func replaced(params []string, args []api.Type, t api.Type) api.Type {
	if t.Kind == api.TyVar {
		return args[slices.Index(params, t.Name)]
	}
	t.Args = slices.Clone(t.Args)
	for i, a := range t.Args {
		t.Args[i] = replaced(params, args, a)
	}
	return t
}

func sameType(a, b api.Type) bool {
	return a.Kind == b.Kind && a.Name == b.Name && slices.EqualFunc(a.Args, b.Args, sameType)
}

func nodes(l ...api.Type) int {
	n := len(l)
	for _, t := range l {
		n += nodes(t.Args...)
	}
	return n
}
