package infer

import (
	"strconv"

	"sloth/api"
)

// constraints are the pairs of a group, as far as they were laid.
type constraints struct {
	known
	fresh  func() api.Type
	fixed  map[string]api.Type // the variables of the group's definitions and of the locals of the place
	hidden []hidden            // what stood in fixed outside, the innermost last
	pairs  []api.Pair
	ends   []int // of each definition's pairs
}

// hidden is what a local hides, if it hides something.
type hidden struct {
	name  string
	outer api.Type
	was   bool
}

// counting makes new variables, of which no two are the same.
func counting() func() api.Type {
	made := 0
	return func() api.Type {
		made++
		return api.Type{Kind: api.TyVar, Name: "t" + strconv.Itoa(made)}
	}
}

// gather lays the constraints of a group.
func gather(k known, group []definition) *constraints {
	c := &constraints{known: k, fresh: counting(), fixed: map[string]api.Type{}}
	for _, d := range group {
		c.fixed[d.name] = c.fresh()
	}
	for _, d := range group {
		if d.sig != nil {
			c.lay(c.fixed[d.name], c.instance(*d.sig))
		}
		for _, clause := range d.clauses {
			c.clause(clause)
		}
		c.ends = append(c.ends, len(c.pairs))
	}
	return c
}

// owner tells among which definition's constraints a pair stands.
func (c *constraints) owner(pair int) int {
	d := 0
	for c.ends[d] <= pair {
		d++
	}
	return d
}

func (c *constraints) lay(a, b api.Type) {
	c.pairs = append(c.pairs, api.Pair{A: a, B: b})
}

// instance is a type with new variables in its variables' places.
func (c *constraints) instance(t api.Type) api.Type {
	made := map[string]api.Type{}
	var put func(api.Type) api.Type
	put = func(t api.Type) api.Type {
		if t.Kind != api.TyVar {
			return withArgs(t, put)
		}
		if _, ok := made[t.Name]; !ok {
			made[t.Name] = c.fresh()
		}
		return made[t.Name]
	}
	return put(t)
}

// withArgs is a type with what is made of its Args.
func withArgs(t api.Type, of func(api.Type) api.Type) api.Type {
	args := make([]api.Type, len(t.Args))
	for i, a := range t.Args {
		args[i] = of(a)
	}
	t.Args = args
	return t
}

// local lets a name be that of a local from here on.
func (c *constraints) local(name string) api.Type {
	outer, was := c.fixed[name]
	c.hidden = append(c.hidden, hidden{name, outer, was})
	c.fixed[name] = c.fresh()
	return c.fixed[name]
}

// leave ends the locals beyond so many.
func (c *constraints) leave(locals int) {
	for len(c.hidden) > locals {
		last := len(c.hidden) - 1
		h := c.hidden[last]
		c.hidden = c.hidden[:last]
		if h.was {
			c.fixed[h.name] = h.outer
		} else {
			delete(c.fixed, h.name)
		}
	}
}

// clause lays the constraints of a clause of a definition, or of a let.
func (c *constraints) clause(clause api.Clause) {
	made := c.row(clause.Pats, clause.Body)
	c.lay(c.fixed[clause.Name], made)
}

// row lays the constraints of a row of patterns and of the body behind it, and tells the type of the function that they are.
func (c *constraints) row(pats []api.Pat, body api.Term) api.Type {
	outside := len(c.hidden)
	from := c.pats(pats)
	to := c.term(body)
	c.leave(outside)
	return function(from, to)
}

func (c *constraints) pats(l []api.Pat) []api.Type {
	made := make([]api.Type, len(l))
	for i, p := range l {
		made[i] = c.pat(p)
	}
	return made
}

// pat lays the constraints of a pattern, and tells its variable.
func (c *constraints) pat(p api.Pat) api.Type {
	own := c.fresh()
	switch p.Kind {
	case api.PatVar:
		c.lay(c.local(p.Name), own)
	case api.PatInt:
		c.lay(own, api.Type{Kind: api.TyInt})
	case api.PatCon:
		args := c.pats(p.Args)
		c.lay(c.instance(c.cons[p.Name]), function(args, own))
	}
	return own
}

// term lays the constraints of an expression, and tells its variable.
func (c *constraints) term(e api.Term) api.Type {
	own := c.fresh()
	switch e.Kind {
	case api.TermVar:
		c.lay(own, c.value(e.Name))
	case api.TermCon:
		c.lay(own, c.instance(c.cons[e.Name]))
	case api.TermInt:
		c.lay(own, api.Type{Kind: api.TyInt})
	case api.TermApp:
		f, a := c.term(e.Args[0]), c.term(e.Args[1])
		c.lay(f, function([]api.Type{a}, own))
	case api.TermRight:
		c.section(own, e.Args[0], e.Args[1])
	case api.TermLam:
		c.lay(own, c.row(e.Pats, e.Args[0]))
	case api.TermLet:
		c.let(own, e.Clauses, e.Args[0])
	case api.TermIf:
		c.lay(c.term(e.Args[0]), api.Type{Kind: api.TyData, Name: "Bool"})
		c.lay(own, c.term(e.Args[1]))
		c.lay(own, c.term(e.Args[2]))
	case api.TermCase:
		c.branches(own, c.term(e.Args[0]), e.Alts)
	}
	return own
}

// value tells the type of a name where it stands.
func (c *constraints) value(name string) api.Type {
	if t, ok := c.fixed[name]; ok {
		return t
	}
	return c.instance(c.values[name])
}

// section is a function of what its operator lacks on the left.
func (c *constraints) section(own api.Type, op, right api.Term) {
	f, a := c.term(op), c.term(right)
	left, made := c.fresh(), c.fresh()
	c.lay(f, function([]api.Type{left, a}, made))
	c.lay(own, function([]api.Type{left}, made))
}

// let: its names are known in all its clauses and in its body.
func (c *constraints) let(own api.Type, clauses []api.Clause, body api.Term) {
	outside := len(c.hidden)
	for i, clause := range clauses {
		if i == 0 || clauses[i-1].Name != clause.Name {
			c.local(clause.Name)
		}
	}
	for _, clause := range clauses {
		c.clause(clause)
	}
	c.lay(own, c.term(body))
	c.leave(outside)
}

// branches are the alternatives of a case, of what is looked at.
func (c *constraints) branches(own, looked api.Type, l []api.Branch) {
	for _, b := range l {
		outside := len(c.hidden)
		c.lay(looked, c.pat(b.Pat))
		c.lay(own, c.term(b.Body))
		c.leave(outside)
	}
}
