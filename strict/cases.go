package strict

import "sloth/api"

// cases builds an alternative of several.
func (b *builder) cases(e *api.Expr) part {
	seen := b.expr(&e.Args[0])
	all := &cases{seen: seen.node}
	made, weight := part{}, 0
	for i := range e.Alts {
		b.fields(&e.Alts[i], seen.typ)
		made = b.expr(&e.Alts[i].Body)
		weight = plus(weight, made.weight)
		all.bodies = append(all.bodies, made.node)
	}
	all.order = b.orderOf(made.typ)
	made.node = all
	if isList(seen.typ) {
		weight = times(weight, 2)
		made.node = b.split(all, e.Alts, seen.typ)
	}
	made.weight = plus(1, plus(seen.weight, weight))
	return made
}

// fields binds an alternative's names. The head and the tail of a list have places; all other fields come to the greatest elements in any case.
func (b *builder) fields(a *api.Alt, seen api.Type) {
	if a.Con == "Cons" {
		b.bind(a.Vars[0], seen.Args[0])
		b.bind(a.Vars[1], seen)
		return
	}
	for i, called := range a.Vars {
		b.names[called] = &name{late: func() part {
			t := b.cons[a.Con].Field(i, seen.Args)
			return part{constant(b.orderOf(t).greatest()), t, 1}
		}}
	}
}

// split is cases of a list.
func (b *builder) split(all *cases, alts []api.Alt, seen api.Type) node {
	made := &listCases{cases: all, longer: constant(0), head: b.place(), tail: b.place(), greatest: b.orderOf(seen.Args[0]).greatest()}
	for i, a := range alts {
		switch {
		case a.Con == "Cons":
			made.longer, made.head, made.tail = all.bodies[i], b.names[a.Vars[0]].place, b.names[a.Vars[1]].place
			return made
		case a.Kind == api.AltElse:
			made.longer = all.bodies[i]
		}
	}
	return made
}
