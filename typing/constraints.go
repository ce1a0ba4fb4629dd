package typing

import (
	"strconv"

	"sloth/api"
)

// constraints are those of a group, as far as they were laid.
type constraints struct {
	Known
	Group
	fresh  func() api.Type
	fixed  map[string]api.Type // the variables of the group's definitions and of the locals of the place
	hidden []hidden            // what stood in fixed outside, the innermost last
}

// hidden is what a local hides, if it hides something.
type hidden struct {
	name  string
	outer api.Type
	was   bool
}

// counting makes new variables, of which no two are the same.
func counting() func() api.Type {
	made := 0
	return func() api.Type {
		made++
		return api.Type{Kind: api.TyVar, Name: "t" + strconv.Itoa(made)}
	}
}

// Lay lays the constraints of a group, of which nothing need be known ahead.
func Lay(k Known, group []Definition) *Group {
	c := &constraints{Known: k, fresh: counting(), fixed: map[string]api.Type{}}
	for _, d := range group {
		c.fixed[d.Name] = c.fresh()
	}
	for _, d := range group {
		f := Function{Name: d.Name, Type: c.fixed[d.Name]}
		if d.Sig != nil {
			c.lay(f.Type, c.instance(*d.Sig))
		}
		for _, clause := range d.Clauses {
			f.Rows = append(f.Rows, c.clause(clause))
		}
		c.Functions = append(c.Functions, f)
		c.ends = append(c.ends, len(c.Pairs))
	}
	return &c.Group
}

func (c *constraints) lay(a, b api.Type) {
	c.Pairs = append(c.Pairs, api.Pair{A: a, B: b})
}

// instance is a type with new variables in its variables' places.
func (c *constraints) instance(t api.Type) api.Type {
	made := map[string]api.Type{}
	var put func(api.Type) api.Type
	put = func(t api.Type) api.Type {
		if t.Kind != api.TyVar {
			return withArgs(t, put)
		}
		if _, ok := made[t.Name]; !ok {
			made[t.Name] = c.fresh()
		}
		return made[t.Name]
	}
	return put(t)
}

// withArgs is a type with what is made of its Args.
func withArgs(t api.Type, of func(api.Type) api.Type) api.Type {
	args := make([]api.Type, len(t.Args))
	for i, a := range t.Args {
		args[i] = of(a)
	}
	t.Args = args
	return t
}

// local lets a name be that of a local from here on.
func (c *constraints) local(name string) api.Type {
	outer, was := c.fixed[name]
	c.hidden = append(c.hidden, hidden{name, outer, was})
	c.fixed[name] = c.fresh()
	return c.fixed[name]
}

// leave ends the locals beyond so many.
func (c *constraints) leave(locals int) {
	for len(c.hidden) > locals {
		last := len(c.hidden) - 1
		h := c.hidden[last]
		c.hidden = c.hidden[:last]
		if h.was {
			c.fixed[h.name] = h.outer
		} else {
			delete(c.fixed, h.name)
		}
	}
}

// clause lays the constraints of a clause of a definition, or of a let.
func (c *constraints) clause(clause api.Clause) Row {
	r := c.row(clause.Pats, clause.Body)
	c.lay(c.fixed[clause.Name], r.function())
	return r
}

// row lays the constraints of a row of patterns and of the body behind it.
func (c *constraints) row(pats []api.Pat, body api.Term) Row {
	outside := len(c.hidden)
	r := c.pats(pats)
	r.Body = c.term(body)
	c.leave(outside)
	return r
}

// function is the type of the function that a row is.
func (r Row) function() api.Type { return function(r.Types, r.Body.Type) }

// pats lays the constraints of a row's patterns, whose variables are known from here on.
func (c *constraints) pats(l []api.Pat) Row {
	outside := len(c.hidden)
	r := Row{Pats: l, Types: c.each(l)}
	for _, h := range c.hidden[outside:] {
		r.Locals = append(r.Locals, api.Sig{Name: h.name, Type: c.fixed[h.name]})
	}
	return r
}

func (c *constraints) each(l []api.Pat) []api.Type {
	made := make([]api.Type, len(l))
	for i, p := range l {
		made[i] = c.pat(p)
	}
	return made
}

// pat lays the constraints of a pattern, and tells its variable.
func (c *constraints) pat(p api.Pat) api.Type {
	own := c.fresh()
	switch p.Kind {
	case api.PatVar:
		c.lay(c.local(p.Name), own)
	case api.PatInt:
		c.lay(own, api.Type{Kind: api.TyInt})
	case api.PatCon:
		args := c.each(p.Args)
		c.lay(c.instance(c.Cons[p.Name]), function(args, own))
	}
	return own
}

// term lays the constraints of an expression.
func (c *constraints) term(e api.Term) Term {
	t := Term{Kind: e.Kind, Name: e.Name, Num: e.Num, Type: c.fresh()}
	switch e.Kind {
	case api.TermVar:
		c.lay(t.Type, c.value(e.Name))
	case api.TermCon:
		c.lay(t.Type, c.instance(c.Cons[e.Name]))
	case api.TermInt:
		c.lay(t.Type, api.Type{Kind: api.TyInt})
	case api.TermApp:
		f, a := c.part(&t, e.Args[0]), c.part(&t, e.Args[1])
		c.lay(f, function([]api.Type{a}, t.Type))
	case api.TermRight:
		c.section(&t, e.Args[0], e.Args[1])
	case api.TermLam:
		t.Rows = []Row{c.row(e.Pats, e.Args[0])}
		c.lay(t.Type, t.Rows[0].function())
	case api.TermLet:
		c.let(&t, e.Clauses, e.Args[0])
	case api.TermIf:
		c.lay(c.part(&t, e.Args[0]), api.Type{Kind: api.TyData, Name: "Bool"})
		c.lay(t.Type, c.part(&t, e.Args[1]))
		c.lay(t.Type, c.part(&t, e.Args[2]))
	case api.TermCase:
		c.branches(&t, c.part(&t, e.Args[0]), e.Alts)
	}
	return t
}

// part lays the constraints of an expression that is one of the Args of another, and tells its variable.
func (c *constraints) part(of *Term, e api.Term) api.Type {
	made := c.term(e)
	of.Args = append(of.Args, made)
	return made.Type
}

// value tells the type of a name where it stands.
func (c *constraints) value(name string) api.Type {
	if t, ok := c.fixed[name]; ok {
		return t
	}
	return c.instance(c.Values[name])
}

// section is a function of what its operator lacks on the left.
func (c *constraints) section(t *Term, op, right api.Term) {
	f, a := c.part(t, op), c.part(t, right)
	left, made := c.fresh(), c.fresh()
	c.lay(f, function([]api.Type{left, a}, made))
	c.lay(t.Type, function([]api.Type{left}, made))
}

// let: its names are known in all its clauses and in its body.
func (c *constraints) let(t *Term, clauses []api.Clause, body api.Term) {
	outside := len(c.hidden)
	for i, clause := range clauses {
		if i == 0 || clauses[i-1].Name != clause.Name {
			t.Lets = append(t.Lets, Function{Name: clause.Name, Type: c.local(clause.Name)})
		}
	}
	now := 0
	for _, clause := range clauses {
		if t.Lets[now].Name != clause.Name {
			now++
		}
		t.Lets[now].Rows = append(t.Lets[now].Rows, c.clause(clause))
	}
	c.lay(t.Type, c.part(t, body))
	c.leave(outside)
}

// branches are the alternatives of a case, of what is looked at.
func (c *constraints) branches(t *Term, looked api.Type, l []api.Branch) {
	for _, b := range l {
		outside := len(c.hidden)
		r := c.pats([]api.Pat{b.Pat})
		c.lay(looked, r.Types[0])
		r.Body = c.term(b.Body)
		c.lay(t.Type, r.Body.Type)
		c.leave(outside)
		t.Rows = append(t.Rows, r)
	}
}
