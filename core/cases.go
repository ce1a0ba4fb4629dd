package core

import "sloth/api"

// choice is what an alternative stands for: a constructor, or a number.
type choice struct {
	con string
	num int
}

func (k *looker) cases(e *api.Expr) *shape {
	seen := k.expr(&e.Args[0])
	if seen == nil {
		return nil
	}
	if seen.kind != api.TyInt && seen.kind != api.TyData {
		return k.fail(api.ErrCoreType)
	}
	var first *shape
	ahead := map[choice]struct{}{}
	for i := range e.Alts {
		a := &e.Alts[i]
		what := choice{con: a.Con, num: a.Num}
		_, twice := ahead[what]
		isLast := i == len(e.Alts)-1
		if !hasAltForm(a, seen.kind) || a.Kind == api.AltElse && !isLast || a.Kind != api.AltElse && twice {
			return k.fail(api.ErrCoreForm)
		}
		ahead[what] = struct{}{}
		s := k.alt(a, seen)
		switch {
		case s == nil:
			return nil
		case first == nil:
			first = s
		case !same(s, first):
			return k.fail(api.ErrCoreType)
		}
	}
	return first
}

// alt looks at an alternative of its form, where something of that type is looked at.
func (k *looker) alt(a *api.Alt, seen *shape) *shape {
	if a.Kind != api.AltCon {
		return k.expr(&a.Body)
	}
	c, ok := k.cons[a.Con]
	switch {
	case !ok || c.data != seen.num:
		return k.fail(api.ErrCoreName)
	case len(a.Vars) != len(c.fields):
		return k.fail(api.ErrCoreForm)
	}
	for _, name := range a.Vars {
		if !k.take(name) {
			return nil
		}
	}
	for i, name := range a.Vars {
		s := k.with(c.fields[i], seen.args)
		if s == nil {
			return nil
		}
		*k.locals[name] = local{is: s, seen: true}
	}
	s := k.expr(&a.Body)
	for _, name := range a.Vars {
		k.locals[name].seen = false
	}
	return s
}
