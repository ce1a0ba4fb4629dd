package elab_test

import (
	"fmt"
	"maps"
	"slices"
	"strings"
	"testing"

	"sloth/api"
	"sloth/core"
	"sloth/elab"
	"sloth/fixity"
	"sloth/infer"
	"sloth/match"
	"sloth/types"
)

// A second form of Elab, as the chapter's words have it: the variable of each thing is named by its place, and so its type is found again; what is looked at is found by paths, written out.

type plainDef struct {
	text int
	name string
	sig  []api.Type // one or none
	rows []plainRow
}

// plainRow is patterns and the body behind them, at a place.
type plainRow struct {
	at   string
	pats []api.Pat
	body api.Term
}

// scope tells what names stand for: variables of locals, new names of locals, names at paths.
type scope map[string]string

func (s scope) with(name, is string) scope {
	inner := scope{}
	maps.Copy(inner, s)
	inner[name] = is
	return inner
}

type plain struct {
	cons     map[string]api.Type
	families []api.Family
	values   map[string]api.Type
	params   map[string][]string
	defs     []plainDef
	group    scope // the variables of the group's definitions
	pairs    []api.Pair
	copies   int
	bounds   map[string]api.Type
	own      map[string]string // the definition's parameters
	names    int
	plainCounts
}

// plainCounts tells how often something was met: shared rows, those with variables, trees with several, rows that are met nowhere, definitions of greater groups, variables that are left.
type plainCounts struct{ shared, with, several, idle, rings, units int }

func (c *plainCounts) add(o plainCounts) {
	c.shared += o.shared
	c.with += o.with
	c.several += o.several
	c.idle += o.idle
	c.rings += o.rings
	c.units += o.units
}

func plainElab(texts []string, counts *plainCounts) (api.Program, *api.Fault) {
	sigs, err := infer.Infer(texts)
	if err != nil {
		fault, _ := api.Seen(err)
		return api.Program{}, &fault
	}
	p := &plain{cons: map[string]api.Type{}, values: map[string]api.Type{}, params: map[string][]string{}}
	defer func() { *counts = p.plainCounts }()
	for _, d := range []string{"Bool|False|True", "Unit|Unit", "(List a)|Nil|Cons,a,(List a)", "(Pair a b)|Pair,a,b", "(Triple a b c)|Triple,a,b,c"} {
		p.builtIn(strings.Split(d, "|"))
	}
	modules, _ := fixity.Resolve(texts)
	var made api.Program
	for _, m := range modules {
		for _, d := range m.Datas {
			p.data(d)
			made.Datas = append(made.Datas, d)
		}
		p.define(m)
	}
	for _, op := range strings.Fields("+ - * / %") {
		p.values[op] = typ("(Int -> (Int -> Int))")
	}
	for _, op := range strings.Fields("== /= < <= > >=") {
		p.values[op] = typ("(Int -> (Int -> Bool))")
	}
	p.values["seq"], p.values["stop"] = typ("(a -> (b -> b))"), typ("a")
	for _, s := range sigs {
		p.values[s.Name], p.params[s.Name] = s.Type, variables(s.Type)
	}
	for i, d := range p.defs {
		body, ok := p.body(d)
		if !ok {
			return api.Program{}, &api.Fault{Code: api.ErrBig, Text: d.text, At: -1, Name: d.name}
		}
		made.Defs = append(made.Defs, api.Def{Name: d.name, Params: p.params[d.name], Type: sigs[i].Type, Body: body})
	}
	if core.Size(made) > api.MaxCore {
		return api.Program{}, &tooGreat
	}
	for i := range made.Defs {
		if depth(&made.Defs[i].Body) > api.MaxDeep {
			return api.Program{}, &api.Fault{Code: api.ErrNest, Text: p.defs[i].text, At: -1, Name: p.defs[i].name}
		}
	}
	return made, nil
}

func variables(t api.Type) []string {
	var l []string
	if t.Kind == api.TyVar {
		l = []string{t.Name}
	}
	for _, a := range t.Args {
		for _, name := range variables(a) {
			if !slices.Contains(l, name) {
				l = append(l, name)
			}
		}
	}
	return l
}

// builtIn learns a data type: its type, and its constructors with their fields.
func (p *plain) builtIn(parts []string) {
	is := typ(parts[0])
	d := api.Data{Name: is.Name, Params: variables(is)}
	for _, c := range parts[1:] {
		fields := strings.Split(c, ",")
		made := api.Con{Name: fields[0]}
		for _, f := range fields[1:] {
			made.Fields = append(made.Fields, typ(f))
		}
		d.Cons = append(d.Cons, made)
	}
	p.data(d)
}

func (p *plain) data(d api.Data) {
	is := api.Type{Kind: api.TyData, Name: d.Name}
	for _, x := range d.Params {
		is.Args = append(is.Args, variable(x))
	}
	var f api.Family
	for _, c := range d.Cons {
		p.cons[c.Name] = arrows(c.Fields, is)
		f.Cons, f.Fields = append(f.Cons, c.Name), append(f.Fields, len(c.Fields))
	}
	p.families = append(p.families, f)
}

func variable(name string) api.Type { return api.Type{Kind: api.TyVar, Name: name} }

func arrows(from []api.Type, to api.Type) api.Type {
	if len(from) == 0 {
		return to
	}
	return fun(from[0], arrows(from[1:], to))
}

func (p *plain) define(m api.Module) {
	for _, c := range m.Clauses {
		n := len(p.defs)
		if n == 0 || p.defs[n-1].name != c.Name {
			p.defs = append(p.defs, plainDef{text: m.Text, name: c.Name})
			for _, s := range m.Sigs {
				if s.Name == c.Name {
					p.defs[n].sig = []api.Type{s.Type}
				}
			}
			n++
		}
		d := &p.defs[n-1]
		d.rows = append(d.rows, plainRow{at: fmt.Sprint("d", n-1, "c", len(d.rows)), pats: c.Pats, body: c.Body})
	}
}

// needs tells whether a definition needs another one, on whatever way.
func (p *plain) needs(a, b string, seen map[string]bool) bool {
	for _, d := range p.defs {
		for _, r := range d.rows {
			for _, name := range namesIn(r.body) {
				if d.name != a {
					continue
				}
				if name == b {
					return true
				}
				if _, is := p.params[name]; is && !seen[name] {
					seen[name] = true
					if p.needs(name, b, seen) {
						return true
					}
				}
			}
		}
	}
	return false
}

func namesIn(e api.Term) []string {
	var l []string
	if e.Kind == api.TermVar {
		l = []string{e.Name}
	}
	for _, a := range e.Args {
		l = append(l, namesIn(a)...)
	}
	for _, c := range e.Clauses {
		l = append(l, namesIn(c.Body)...)
	}
	for _, b := range e.Alts {
		l = append(l, namesIn(b.Body)...)
	}
	return l
}

// body works the types of the definition's group out, and then its body.
func (p *plain) body(d plainDef) (api.Expr, bool) {
	p.group, p.pairs, p.bounds = scope{}, nil, map[string]api.Type{}
	var group []plainDef
	for i, o := range p.defs {
		if o.name == d.name || p.needs(d.name, o.name, map[string]bool{}) && p.needs(o.name, d.name, map[string]bool{}) {
			group = append(group, o)
			p.group[o.name] = fmt.Sprint("d", i)
		}
	}
	if len(group) > 1 {
		p.rings++
	}
	for _, o := range group {
		for _, s := range o.sig {
			p.pair(variable(p.group[o.name]), p.instance(s))
		}
		for _, r := range o.rows {
			p.row(r, variable(p.group[o.name]), nil)
		}
	}
	bounds, _, code := types.Unify(p.pairs)
	if code != api.OK {
		panic(code)
	}
	for _, b := range bounds {
		p.bounds[b.Name] = b.Type
	}
	p.own, p.names = map[string]string{}, 0
	for i, name := range variables(p.stands(p.group[d.name])) {
		p.own[name] = p.params[d.name][i]
	}
	ok := true
	e := p.function(nil, d.rows, &ok)
	return e, ok
}

func (p *plain) pair(a, b api.Type) { p.pairs = append(p.pairs, api.Pair{A: a, B: b}) }

// instance: each copy's variables have the copy's number behind their names.
func (p *plain) instance(t api.Type) api.Type {
	p.copies++
	var b []api.Bound
	for _, name := range variables(t) {
		b = append(b, api.Bound{Name: name, Type: variable(fmt.Sprint("i", name, "_", p.copies))})
	}
	return put(b, t)
}

// The constraints.

func (p *plain) row(r plainRow, whole api.Type, in scope) {
	var from []api.Type
	for i, x := range r.pats {
		in = p.pat(fmt.Sprint(r.at, "p", i), in, x)
		from = append(from, variable(fmt.Sprint(r.at, "p", i)))
	}
	p.term(r.at+"b", in, r.body)
	p.pair(whole, arrows(from, variable(r.at+"b")))
}

func (p *plain) pat(at string, in scope, x api.Pat) scope {
	switch x.Kind {
	case api.PatVar:
		return in.with(x.Name, at)
	case api.PatInt:
		p.pair(variable(at), typ("Int"))
	case api.PatCon:
		var from []api.Type
		for i, a := range x.Args {
			in = p.pat(fmt.Sprint(at, "a", i), in, a)
			from = append(from, variable(fmt.Sprint(at, "a", i)))
		}
		p.pair(p.instance(p.cons[x.Name]), arrows(from, variable(at)))
	}
	return in
}

// rowsOf tells the rows of a lambda or a case, and, by their names, of a let.
func rowsOf(at string, e api.Term) (own []plainRow, names []string, lets map[string][]plainRow) {
	switch e.Kind {
	case api.TermLam:
		own = []plainRow{{at + "l", e.Pats, e.Args[0]}}
	case api.TermCase:
		for i, b := range e.Alts {
			own = append(own, plainRow{fmt.Sprint(at, "k", i), []api.Pat{b.Pat}, b.Body})
		}
	}
	lets = map[string][]plainRow{}
	for i, c := range e.Clauses {
		if lets[c.Name] == nil {
			names = append(names, c.Name)
		}
		lets[c.Name] = append(lets[c.Name], plainRow{fmt.Sprint(at, "c", i), c.Pats, c.Body})
	}
	return own, names, lets
}

func (p *plain) term(at string, in scope, e api.Term) {
	me := variable(at)
	rows, names, lets := rowsOf(at, e)
	for _, name := range names {
		in = in.with(name, at+"n"+fmt.Sprint(slices.Index(names, name)))
	}
	for _, name := range names {
		for _, r := range lets[name] {
			p.row(r, variable(in[name]), in)
		}
	}
	var arg []api.Type
	for i, a := range e.Args {
		arg = append(arg, variable(fmt.Sprint(at, "e", i)))
		if e.Kind != api.TermLam {
			p.term(arg[i].Name, in, a)
		}
	}
	switch e.Kind {
	case api.TermVar:
		p.pair(me, p.named(in, e.Name))
	case api.TermCon:
		p.pair(me, p.instance(p.cons[e.Name]))
	case api.TermInt:
		p.pair(me, typ("Int"))
	case api.TermApp:
		p.pair(arg[0], fun(arg[1], me))
	case api.TermRight:
		x, r := variable(at+"x"), variable(at+"r")
		p.pair(arg[0], fun(x, fun(arg[1], r)))
		p.pair(me, fun(x, r))
	case api.TermLam:
		p.row(rows[0], me, in)
	case api.TermIf:
		p.pair(arg[0], typ("Bool"))
		p.pair(me, arg[1])
		p.pair(me, arg[2])
	case api.TermLet:
		p.pair(me, arg[0])
	case api.TermCase:
		for _, r := range rows {
			p.row(r, fun(arg[0], me), in)
		}
	}
}

func (p *plain) named(in scope, name string) api.Type {
	if at, ok := in[name]; ok {
		return variable(at)
	}
	if at, ok := p.group[name]; ok {
		return variable(at)
	}
	return p.instance(p.values[name])
}

// The program.

// stands is what the variable of a place stands for.
func (p *plain) stands(at string) api.Type {
	if t, ok := p.bounds[at]; ok {
		return t
	}
	return variable(at)
}

// is is the type of what stands at a place.
func (p *plain) is(at string) api.Type {
	t := p.stands(at)
	var b []api.Bound
	for _, name := range variables(t) {
		if own, ok := p.own[name]; ok {
			b = append(b, api.Bound{Name: name, Type: variable(own)})
		} else {
			b = append(b, api.Bound{Name: name, Type: typ("Unit")})
			p.units++
		}
	}
	return put(b, t)
}

func (p *plain) new() string {
	p.names++
	return fmt.Sprint("n", p.names)
}

func named(name string) api.Expr { return api.Expr{Kind: api.ExprVar, Name: name} }

func applied(f api.Expr, l ...api.Expr) api.Expr {
	for _, x := range l {
		f = api.Expr{Kind: api.ExprApp, Args: []api.Expr{f, x}}
	}
	return f
}

func lambda(name string, is api.Type, body api.Expr) api.Expr {
	return api.Expr{Kind: api.ExprLam, Binds: []api.Bind{{Name: name, Type: is}}, Args: []api.Expr{body}}
}

func let(binds []api.Bind, body api.Expr) api.Expr {
	return api.Expr{Kind: api.ExprLet, Binds: binds, Args: []api.Expr{body}}
}

func isBuiltIn(e api.Term) bool {
	return e.Kind == api.TermVar && slices.Contains(strings.Fields("+ - * / % == /= < <= > >= seq"), e.Name)
}

func operated(name string, a, b api.Expr) api.Expr {
	if name == "seq" {
		return api.Expr{Kind: api.ExprSeq, Args: []api.Expr{a, b}}
	}
	return api.Expr{Kind: api.ExprOp, Name: name, Args: []api.Expr{a, b}}
}

func (p *plain) expr(at string, in scope, e api.Term, ok *bool) api.Expr {
	t := p.is(at)
	arg := func(i int) api.Expr { return p.expr(fmt.Sprint(at, "e", i), in, e.Args[i], ok) }
	rows, names, lets := rowsOf(at, e)
	switch e.Kind {
	case api.TermVar:
		return p.value(t, in, e)
	case api.TermInt:
		return api.Expr{Kind: api.ExprInt, Num: e.Num}
	case api.TermCon:
		b, _ := special(p.cons[e.Name], t)
		of := p.cons[e.Name]
		for of.Kind == api.TyFun {
			of = of.Args[1]
		}
		return api.Expr{Kind: api.ExprCon, Name: e.Name, Types: put(b, of).Args}
	case api.TermApp:
		if f := e.Args[0]; f.Kind == api.TermApp && isBuiltIn(f.Args[0]) {
			return operated(f.Args[0].Name, p.expr(at+"e0e1", in, f.Args[1], ok), arg(1))
		}
		return applied(arg(0), arg(1))
	case api.TermRight:
		x := p.new()
		body := applied(arg(0), named(x), arg(1))
		if isBuiltIn(e.Args[0]) {
			body = operated(e.Args[0].Name, named(x), arg(1))
		}
		return lambda(x, p.is(at+"x"), body)
	case api.TermLam:
		return p.function(in, rows, ok)
	case api.TermIf:
		return api.Expr{Kind: api.ExprCase, Args: []api.Expr{arg(0)}, Alts: []api.Alt{{Kind: api.AltCon, Con: "False", Body: arg(2)}, {Kind: api.AltCon, Con: "True", Body: arg(1)}}}
	case api.TermLet:
		for _, name := range names {
			in = in.with(name, p.new())
		}
		var binds []api.Bind
		for i, name := range names {
			binds = append(binds, api.Bind{Name: in[name], Type: p.is(fmt.Sprint(at, "n", i)), Value: p.function(in, lets[name], ok)})
		}
		return let(binds, arg(0))
	}
	if x, local := in[e.Args[0].Name]; local && e.Args[0].Kind == api.TermVar {
		return p.rows(in, []string{x}, rows, t, ok)
	}
	x := p.new()
	return let([]api.Bind{{Name: x, Type: p.is(at + "e0"), Value: arg(0)}}, p.rows(in, []string{x}, rows, t, ok))
}

func (p *plain) value(t api.Type, in scope, e api.Term) api.Expr {
	if x, ok := in[e.Name]; ok {
		return named(x)
	}
	if isBuiltIn(e) {
		x, y := p.new(), p.new()
		return lambda(x, t.Args[0], lambda(y, t.Args[1].Args[0], operated(e.Name, named(x), named(y))))
	}
	if e.Name == "stop" {
		return api.Expr{Kind: api.ExprFail, Num: api.StuckStop, Types: []api.Type{t}}
	}
	g := api.Expr{Kind: api.ExprGlobal, Name: e.Name}
	b, _ := special(p.values[e.Name], t)
	for _, name := range p.params[e.Name] {
		g.Types = append(g.Types, put(b, variable(name)))
	}
	return g
}

func (p *plain) function(in scope, l []plainRow, ok *bool) api.Expr {
	var columns []string
	for range l[0].pats {
		columns = append(columns, p.new())
	}
	e := p.rows(in, columns, l, p.is(l[0].at+"b"), ok)
	for i := len(columns) - 1; i >= 0; i-- {
		e = lambda(columns[i], p.is(fmt.Sprint(l[0].at, "p", i)), e)
	}
	return e
}

// seen is a variable of a row: its name, its place among the patterns, and the path at which it stands.
type seen struct{ name, at, path string }

func variablesIn(x api.Pat, at, path string) []seen {
	if x.Kind == api.PatVar {
		return []seen{{x.Name, at, path}}
	}
	var l []seen
	for i, a := range x.Args {
		l = append(l, variablesIn(a, fmt.Sprint(at, "a", i), fmt.Sprint(path, " ", i))...)
	}
	return l
}

func leaves(t api.Tree) []int {
	var l []int
	if t.Kind == api.TreeRow {
		l = []int{t.Row}
	}
	for _, c := range t.Cases {
		l = append(l, leaves(c.Then)...)
	}
	for _, e := range t.Else {
		l = append(l, leaves(e)...)
	}
	return l
}

// plainTree is what a tree's parts have in common.
type plainTree struct {
	in     scope
	rows   []plainRow
	vars   [][]seen
	is     api.Type
	shared map[int]string
	ok     *bool
}

func (p *plain) rows(in scope, columns []string, l []plainRow, is api.Type, ok *bool) api.Expr {
	var pats [][]api.Pat
	r := plainTree{in: in, rows: l, is: is, shared: map[int]string{}, ok: ok}
	for _, x := range l {
		pats = append(pats, x.pats)
		var vars []seen
		for i, q := range x.pats {
			vars = append(vars, variablesIn(q, fmt.Sprint(x.at, "p", i), fmt.Sprint(i))...)
		}
		r.vars = append(r.vars, vars)
	}
	tree, _, code := match.Compile(p.families, pats)
	if code != api.OK {
		*ok = false
		return api.Expr{}
	}
	met := leaves(tree)
	var binds []api.Bind
	for i, x := range l {
		if times(met, i) == 0 {
			p.idle++
		}
		if times(met, i) < 2 {
			continue
		}
		p.shared++
		if len(r.vars[i]) > 0 {
			p.with++
		}
		if len(binds) == 1 {
			p.several++
		}
		r.shared[i] = p.new()
		inner, b := in, api.Bind{Name: r.shared[i], Type: is}
		var names []string
		for _, v := range r.vars[i] {
			names = append(names, p.new())
			inner = inner.with(v.name, names[len(names)-1])
		}
		b.Value = p.expr(x.at+"b", inner, x.body, ok)
		for j := len(names) - 1; j >= 0; j-- {
			t := p.is(r.vars[i][j].at)
			b.Value, b.Type = lambda(names[j], t, b.Value), fun(t, b.Type)
		}
		if core.Size(api.Program{Defs: []api.Def{{Type: b.Type}}}) > 2+api.MaxType {
			*ok = false
		}
		binds = append(binds, b)
	}
	names := scope{}
	for i, x := range columns {
		names = names.with(fmt.Sprint(i), x)
	}
	e := p.tree(r, names, tree)
	if len(binds) > 0 {
		e = let(binds, e)
	}
	return e
}

func times(l []int, n int) int {
	times := 0
	for _, x := range l {
		if x == n {
			times++
		}
	}
	return times
}

func (p *plain) tree(r plainTree, names scope, t api.Tree) api.Expr {
	switch t.Kind {
	case api.TreeFail:
		return api.Expr{Kind: api.ExprFail, Num: api.StuckMatch, Types: []api.Type{put(nil, r.is)}}
	case api.TreeRow:
		if s, ok := r.shared[t.Row]; ok {
			e := named(s)
			for _, v := range r.vars[t.Row] {
				e = applied(e, named(names[v.path]))
			}
			return e
		}
		in := r.in
		for _, v := range r.vars[t.Row] {
			in = in.with(v.name, names[v.path])
		}
		return p.expr(r.rows[t.Row].at+"b", in, r.rows[t.Row].body, r.ok)
	}
	path := strings.Trim(fmt.Sprint(t.Path), "[]")
	e := api.Expr{Kind: api.ExprCase, Args: []api.Expr{named(names[path])}}
	for _, c := range t.Cases {
		a := api.Alt{Kind: api.AltInt, Num: c.Num}
		inner := names
		if c.Con != "" {
			a = api.Alt{Kind: api.AltCon, Con: c.Con}
			for of := p.cons[c.Con]; of.Kind == api.TyFun; of = of.Args[1] {
				a.Vars = append(a.Vars, p.new())
				inner = inner.with(fmt.Sprint(path, " ", len(a.Vars)-1), a.Vars[len(a.Vars)-1])
			}
		}
		a.Body = p.tree(r, inner, c.Then)
		e.Alts = append(e.Alts, a)
	}
	for _, x := range t.Else {
		e.Alts = append(e.Alts, api.Alt{Kind: api.AltElse, Body: p.tree(r, names, x)})
	}
	return e
}

// checkPlain: Elab answers as its second form does, and core.Check takes it.
func checkPlain(t *testing.T, texts []string) (api.Errno, plainCounts) {
	t.Helper()
	got, err := elab.Elab(texts)
	var counts plainCounts
	want, fault := plainElab(texts, &counts)
	if fault == nil {
		fault = &api.Fault{}
	}
	seen, ok := api.Seen(err)
	if !ok || (err == nil) != (fault.Code == api.OK) || seen != *fault {
		t.Errorf("Elab(%s): %v\nwant %v", strings.Join(texts, "|"), err, fault)
	}
	if code := core.Check(got); code != api.OK {
		t.Errorf("Elab(%s): core.Check says %v", strings.Join(texts, "|"), code)
	}
	if !sameProgram(got, want) {
		t.Errorf("Elab(%s):\n%s\nwant\n%s", strings.Join(texts, "|"), told(got), told(want))
	}
	return fault.Code, counts
}
