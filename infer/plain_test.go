package infer_test

import (
	"maps"
	"strconv"
	"testing"

	"sloth/api"
	"sloth/fixity"
	"sloth/infer"
	"sloth/types"
)

// A second form of Infer, as the chapter's words have it: what definitions need is followed on all ways, the groups are looked for one by one, and the variable of each thing is named by its place.

type plainDef struct {
	text    int
	name    string
	sig     []api.Type // one or none
	clauses []api.Clause
}

type plain struct {
	cons   map[string]api.Type
	defs   []plainDef
	needs  map[string]map[string]bool // on whatever way
	worked map[string]api.Type
	own    map[string]string // the variables of the group's definitions
	pairs  []api.Pair
	copies int
}

func (p *plain) fault(d plainDef, code api.Errno) *api.Fault {
	return &api.Fault{Code: code, Text: d.text, At: -1, Name: d.name}
}

func plainInfer(texts []string) ([]api.Sig, *api.Fault) {
	modules, err := fixity.Resolve(texts)
	if err != nil {
		fault, _ := api.Seen(err)
		return nil, &fault
	}
	p := &plain{cons: plainBuilt(), worked: map[string]api.Type{}}
	for _, op := range []string{"+", "-", "*", "/", "%"} {
		p.worked[op] = typ("(Int -> (Int -> Int))")
	}
	for _, op := range []string{"==", "/=", "<", "<=", ">", ">="} {
		p.worked[op] = typ("(Int -> (Int -> Bool))")
	}
	p.worked["seq"], p.worked["stop"] = typ("(a -> (b -> b))"), typ("a")
	for _, m := range modules {
		for _, d := range m.Datas {
			for _, c := range d.Cons {
				t := api.Type{Kind: api.TyData, Name: d.Name}
				for _, x := range d.Params {
					t.Args = append(t.Args, variable(x))
				}
				if p.cons[c.Name] = arrows(c.Fields, t); nodes(p.cons[c.Name]) > api.MaxType {
					return nil, &api.Fault{Code: api.ErrBig, Text: m.Text, At: -1, Name: c.Name}
				}
			}
		}
		p.define(m)
	}
	p.follow()
	for group := p.next(); group != nil; group = p.next() {
		if fault := p.work(group); fault != nil {
			return nil, fault
		}
	}
	var l []api.Sig
	for _, d := range p.defs {
		l = append(l, api.Sig{Name: d.name, Type: p.worked[d.name]})
	}
	return l, nil
}

func plainBuilt() map[string]api.Type {
	return map[string]api.Type{
		"False": typ("Bool"), "True": typ("Bool"), "Unit": typ("Unit"), "Nil": typ("(List a)"),
		"Cons": typ("(a -> ((List a) -> (List a)))"), "Pair": typ("(a -> (b -> (Pair a b)))"),
		"Triple": typ("(a -> (b -> (c -> (Triple a b c))))"),
	}
}

func variable(name string) api.Type { return api.Type{Kind: api.TyVar, Name: name} }

func arrows(from []api.Type, to api.Type) api.Type {
	if len(from) == 0 {
		return to
	}
	return fun(from[0], arrows(from[1:], to))
}

func (p *plain) define(m api.Module) {
	for _, c := range m.Clauses {
		if n := len(p.defs); n > 0 && p.defs[n-1].name == c.Name {
			p.defs[n-1].clauses = append(p.defs[n-1].clauses, c)
			continue
		}
		d := plainDef{text: m.Text, name: c.Name, clauses: []api.Clause{c}}
		for _, s := range m.Sigs {
			if s.Name == c.Name {
				d.sig = []api.Type{s.Type}
			}
		}
		p.defs = append(p.defs, d)
	}
}

// follow finds what definitions need on whatever way.
func (p *plain) follow() {
	p.needs = map[string]map[string]bool{}
	for _, d := range p.defs {
		p.needs[d.name] = map[string]bool{}
		for _, c := range d.clauses {
			p.names(c.Body, p.needs[d.name])
		}
	}
	for _, over := range p.defs {
		for _, d := range p.defs {
			if p.needs[d.name][over.name] {
				maps.Copy(p.needs[d.name], p.needs[over.name])
			}
		}
	}
}

func (p *plain) names(t api.Term, all map[string]bool) {
	for _, d := range p.defs {
		if t.Kind == api.TermVar && t.Name == d.name {
			all[t.Name] = true
		}
	}
	for _, a := range t.Args {
		p.names(a, all)
	}
	for _, c := range t.Clauses {
		p.names(c.Body, all)
	}
	for _, b := range t.Alts {
		p.names(b.Body, all)
	}
}

// next finds the next group, if there is one.
func (p *plain) next() []plainDef {
	for _, first := range p.defs {
		if _, done := p.worked[first.name]; done {
			continue
		}
		var group []plainDef
		ready := true
		for _, d := range p.defs {
			in := d.name == first.name || p.needs[first.name][d.name] && p.needs[d.name][first.name]
			if _, done := p.worked[d.name]; !in && !done && p.needs[first.name][d.name] {
				ready = false
			}
			if in {
				group = append(group, d)
			}
		}
		if ready {
			return group
		}
	}
	return nil
}

func (p *plain) work(group []plainDef) *api.Fault {
	p.pairs, p.own = nil, map[string]string{}
	for i, d := range group {
		p.own[d.name] = "d" + strconv.Itoa(i)
	}
	var whose []plainDef
	for _, d := range group {
		place := p.own[d.name]
		for _, s := range d.sig {
			p.pair(variable(place), p.instance(s))
		}
		for i, c := range d.clauses {
			p.row(place+"c"+strconv.Itoa(i), variable(place), nil, c.Pats, c.Body)
		}
		for len(whose) < len(p.pairs) {
			whose = append(whose, d)
		}
	}
	bounds, at, code := types.Unify(p.pairs)
	switch code {
	case api.ErrTypesMismatch:
		return p.fault(whose[at], api.ErrInferMismatch)
	case api.ErrTypesOccurs:
		return p.fault(whose[at], api.ErrInferOccurs)
	case api.ErrBig, api.ErrLong:
		return p.fault(group[0], api.ErrBig)
	}
	values := map[string]api.Type{}
	for _, b := range bounds {
		values[b.Name] = b.Type
	}
	for _, d := range group {
		t, ok := values[p.own[d.name]]
		if !ok {
			t = variable("x")
		}
		p.worked[d.name], _ = types.Canon(t)
	}
	for _, d := range group {
		for _, s := range d.sig {
			if c, _ := types.Canon(s); !same(c, p.worked[d.name]) {
				return p.fault(d, api.ErrInferSig)
			}
		}
	}
	return nil
}

func (p *plain) pair(a, b api.Type) { p.pairs = append(p.pairs, api.Pair{A: a, B: b}) }

// instance: each copy's variables have the copy's number behind their names.
func (p *plain) instance(t api.Type) api.Type {
	p.copies++
	return numbered(t, "_"+strconv.Itoa(p.copies))
}

func numbered(t api.Type, behind string) api.Type {
	if t.Kind == api.TyVar {
		return variable("i" + t.Name + behind)
	}
	out := api.Type{Kind: t.Kind, Name: t.Name}
	for _, a := range t.Args {
		out.Args = append(out.Args, numbered(a, behind))
	}
	return out
}

// scope: the variables of locals, by their names.
type scope map[string]string

func (s scope) with(name, place string) scope {
	inner := scope{name: place}
	for n, v := range s {
		if n != name {
			inner[n] = v
		}
	}
	return inner
}

// row: those of patterns, of the body behind them, and (whole, [p1] -> .. -> [body]).
func (p *plain) row(place string, whole api.Type, in scope, pats []api.Pat, body api.Term) {
	var from []api.Type
	for i, x := range pats {
		in = p.pat(place+"p"+strconv.Itoa(i), in, x)
		from = append(from, variable(place+"p"+strconv.Itoa(i)))
	}
	p.term(place+"b", in, body)
	p.pair(whole, arrows(from, variable(place+"b")))
}

func (p *plain) pat(place string, in scope, x api.Pat) scope {
	me := variable(place)
	switch x.Kind {
	case api.PatVar:
		p.pair(variable(place+"x"), me)
		return in.with(x.Name, place+"x")
	case api.PatInt:
		p.pair(me, typ("Int"))
	case api.PatCon:
		var from []api.Type
		for i, a := range x.Args {
			in = p.pat(place+"a"+strconv.Itoa(i), in, a)
			from = append(from, variable(place+"a"+strconv.Itoa(i)))
		}
		p.pair(p.instance(p.cons[x.Name]), arrows(from, me))
	}
	return in
}

func (p *plain) term(place string, in scope, e api.Term) {
	me := variable(place)
	sub := func(i int) (string, api.Type) {
		s := place + "e" + strconv.Itoa(i)
		return s, variable(s)
	}
	arg := func(i int) api.Type {
		s, v := sub(i)
		p.term(s, in, e.Args[i])
		return v
	}
	switch e.Kind {
	case api.TermVar:
		p.name(me, in, e.Name)
	case api.TermCon:
		p.pair(me, p.instance(p.cons[e.Name]))
	case api.TermInt:
		p.pair(me, typ("Int"))
	case api.TermApp:
		f := arg(0)
		a := arg(1)
		p.pair(f, fun(a, me))
	case api.TermRight:
		op := arg(0)
		a := arg(1)
		x, r := variable(place+"x"), variable(place+"r")
		p.pair(op, fun(x, fun(a, r)))
		p.pair(me, fun(x, r))
	case api.TermLam:
		p.row(place+"l", me, in, e.Pats, e.Args[0])
	case api.TermIf:
		p.pair(arg(0), typ("Bool"))
		p.pair(me, arg(1))
		p.pair(me, arg(2))
	case api.TermLet:
		for _, c := range e.Clauses {
			in = in.with(c.Name, place+"n"+strconv.Itoa(first(e.Clauses, c.Name)))
		}
		for i, c := range e.Clauses {
			p.row(place+"c"+strconv.Itoa(i), variable(in[c.Name]), in, c.Pats, c.Body)
		}
		p.pair(me, arg(0))
	case api.TermCase:
		looked := arg(0)
		for i, b := range e.Alts {
			at := place + "k" + strconv.Itoa(i)
			inner := p.pat(at+"p", in, b.Pat)
			p.pair(looked, variable(at+"p"))
			p.term(at+"b", inner, b.Body)
			p.pair(me, variable(at+"b"))
		}
	}
}

func first(l []api.Clause, name string) int {
	for i, c := range l {
		if c.Name == name {
			return i
		}
	}
	return -1
}

func (p *plain) name(me api.Type, in scope, name string) {
	if place, ok := in[name]; ok {
		p.pair(me, variable(place))
	} else if place, ok := p.own[name]; ok {
		p.pair(me, variable(place))
	} else {
		p.pair(me, p.instance(p.worked[name]))
	}
}

// checkPlain: Infer answers as its second form does.
func checkPlain(t *testing.T, texts []string) api.Errno {
	t.Helper()
	got, err := infer.Infer(texts)
	want, fault := plainInfer(texts)
	if fault == nil {
		fault = &api.Fault{}
	}
	seen, ok := api.Seen(err)
	if !ok || (err == nil) != (fault.Code == api.OK) || seen != *fault || !sameAll(got, want) {
		t.Errorf("Infer(%s): %v, %s\nwant %v, %s", short(texts), err, toldAll(got), fault, toldAll(want))
	}
	return fault.Code
}
