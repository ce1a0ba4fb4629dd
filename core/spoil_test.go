package core_test

import (
	"slices"
	"strings"

	"sloth/api"
)

// sites are the things of a program that can be changed.
type sites struct {
	exprs []*api.Expr
	binds []*api.Bind
	alts  []*api.Alt
	types []*api.Type
	names []*string
}

func (s *sites) typ(t *api.Type) {
	s.types = append(s.types, t)
	for i := range t.Args {
		s.typ(&t.Args[i])
	}
}

func (s *sites) expr(e *api.Expr) {
	s.exprs = append(s.exprs, e)
	s.names = append(s.names, &e.Name)
	for i := range e.Types {
		s.typ(&e.Types[i])
	}
	for i := range e.Args {
		s.expr(&e.Args[i])
	}
	for i := range e.Binds {
		b := &e.Binds[i]
		s.binds, s.names = append(s.binds, b), append(s.names, &b.Name)
		s.typ(&b.Type)
		s.expr(&b.Value)
	}
	for i := range e.Alts {
		a := &e.Alts[i]
		s.alts, s.names = append(s.alts, a), append(s.names, &a.Con)
		for j := range a.Vars {
			s.names = append(s.names, &a.Vars[j])
		}
		s.expr(&a.Body)
	}
}

func sitesOf(p *api.Program) *sites {
	s := &sites{}
	for i := range p.Datas {
		d := &p.Datas[i]
		s.names = append(s.names, &d.Name)
		for j := range d.Params {
			s.names = append(s.names, &d.Params[j])
		}
		for j := range d.Cons {
			s.names = append(s.names, &d.Cons[j].Name)
			for f := range d.Cons[j].Fields {
				s.typ(&d.Cons[j].Fields[f])
			}
		}
	}
	for i := range p.Defs {
		d := &p.Defs[i]
		s.names = append(s.names, &d.Name)
		for j := range d.Params {
			s.names = append(s.names, &d.Params[j])
		}
		s.typ(&d.Type)
		s.expr(&d.Body)
	}
	return s
}

func any1[T any](k *maker, l []*T) *T {
	if len(l) == 0 {
		return new(T)
	}
	return l[k.Intn(len(l))]
}

// shuffle drops, doubles or swaps something in a list.
func shuffle[T any](k *maker, l []T) []T {
	var zero T
	if len(l) == 0 {
		return []T{zero}
	}
	i, j := k.Intn(len(l)), k.Intn(len(l))
	switch k.Intn(3) {
	case 0:
		return slices.Delete(slices.Clone(l), i, i+1)
	case 1:
		return slices.Insert(slices.Clone(l), j, l[i])
	}
	l[i], l[j] = l[j], l[i]
	return l
}

// spoil changes one thing of a program.
func (k *maker) spoil(p *api.Program) {
	s := sitesOf(p)
	e, b, a, t := any1(k, s.exprs), any1(k, s.binds), any1(k, s.alts), any1(k, s.types)
	switch k.Intn(17) {
	case 0:
		e.Kind = k.Intn(15) - 1
	case 1:
		e.Num = pick(k.Rand, 0, 1, 4, 5, -1, api.MinInt, api.MinInt-1, api.MaxInt, api.MaxInt+1)
	case 2, 3, 4:
		*any1(k, s.names) = pick(k.Rand, *any1(k, s.names), *any1(k, s.names), *any1(k, s.names), *any1(k, s.names), "", "x", "a", "M.A", "+", "Nil", "Bool", "é", "\x1f", strings.Repeat("n", api.MaxName), strings.Repeat("n", api.MaxName+1))
	case 5:
		*e = bare(*any1(k, s.exprs))
	case 6:
		e.Types = shuffle(k, e.Types)
	case 7:
		e.Args = shuffle(k, e.Args)
	case 8:
		e.Binds = shuffle(k, e.Binds)
	case 9, 10:
		k.spoilAlt(s, e, a)
	case 11:
		*t = pick(k.Rand, bare(*any1(k, s.types)), bare(*any1(k, s.types)), integer, variable("nobody"), variable("A"), data("List"), data("Nobody"), data("Int"), api.Type{}, api.Type{Kind: api.TyInt, Name: "Int"}, api.Type{Kind: 5}, api.Type{Kind: api.TyFun, Name: "x", Args: []api.Type{integer, integer}})
	case 12:
		t.Args = shuffle(k, t.Args)
	case 13:
		b.Value = bare(*any1(k, s.exprs))
	case 14:
		b.Type = bare(*any1(k, s.types))
	case 15, 16:
		k.spoilTop(p)
	}
	*p = bare(*p)
}

func (k *maker) spoilAlt(s *sites, e *api.Expr, a *api.Alt) {
	for range 10 {
		if len(e.Alts) == 0 {
			e = any1(k, s.exprs)
		}
	}
	switch k.Intn(6) {
	case 0:
		a.Kind = k.Intn(6) - 1
	case 1:
		a.Num = pick(k.Rand, 0, 1, any1(k, s.alts).Num, api.MinInt-1, api.MaxInt+1)
	case 2:
		a.Con = any1(k, s.alts).Con
	case 3:
		a.Vars = shuffle(k, a.Vars)
	default:
		e.Alts = shuffle(k, e.Alts)
	}
}

// spoilTop changes data types and definitions.
func (k *maker) spoilTop(p *api.Program) {
	if len(p.Datas) > 0 {
		d := &p.Datas[k.Intn(len(p.Datas))]
		switch k.Intn(8) {
		case 0:
			d.Params = shuffle(k, d.Params)
		case 1:
			d.Cons = shuffle(k, d.Cons)
		case 2:
			p.Datas = shuffle(k, p.Datas)
		case 3:
			for i := range d.Cons {
				d.Cons[i].Fields = shuffle(k, d.Cons[i].Fields)
			}
		}
	}
	if len(p.Defs) > 0 {
		d := &p.Defs[k.Intn(len(p.Defs))]
		switch k.Intn(6) {
		case 0:
			d.Params = shuffle(k, d.Params)
		case 1:
			p.Defs = shuffle(k, p.Defs)
		case 2:
			d.Type = p.Defs[k.Intn(len(p.Defs))].Type
		}
	}
}
