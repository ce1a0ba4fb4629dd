package lift

import "sloth/api"

// survey is what is known of one definition: its locals and its inner functions, in the order in which they are met.
type survey struct {
	*lifter
	locals    map[string]*local // no name is bound twice, and none is spoken of where it is not bound: so none is ever taken out
	functions []*function
	begins    map[string]*function // by the name of the first of their own lambdas
	open      []*function          // those around what is looked at
}

// local is a name that is bound in a definition.
type local struct {
	name   string
	number int       // in the order of the locals
	depth  int       // how many functions stand around the place where it is bound
	is     *function // whose name it is; nil: it is no function's
	met    int       // how many functions had been met when it was last spoken of
	typ    api.Type  // of an alternative's local the zero Type, till it is asked for
	by     *api.Expr // of an alternative's local: the ExprCase, and the field that it stands for
	con    string
	field  int
}

// function is an inner function.
type function struct {
	place  int         // from 1 on
	first  *api.Expr   // of its own lambdas
	typ    api.Type    // of one without a name the zero Type, till it is asked for
	speaks []*local    // those free in it that are no functions' names
	needs  []*function // those whose names are free in it
	given  []*local
	name   string   // of the definition that it becomes
	call   api.Expr // of that one
}

func newSurvey(k *lifter, body *api.Expr) *survey {
	s := &survey{lifter: k, locals: map[string]*local{}, begins: map[string]*function{}}
	s.expr(s.own(body))
	return s
}

func (s *survey) expr(e *api.Expr) {
	switch e.Kind {
	case api.ExprVar:
		s.speak(s.locals[e.Name])
		return
	case api.ExprLam:
		s.function(&function{}, e)
		return
	}
	s.let(e.Binds)
	for i := range e.Args {
		s.expr(&e.Args[i])
	}
	for i := range e.Alts {
		a := &e.Alts[i]
		for field, name := range a.Vars {
			s.bind(name, &local{by: e, con: a.Con, field: field})
		}
		s.expr(&a.Body)
	}
}

func (s *survey) bind(name string, l *local) {
	l.name, l.number, l.depth = name, len(s.locals), len(s.open)
	s.locals[name] = l
}

// own binds the names of the lambdas with which an expression begins, and tells what stands within them.
func (s *survey) own(e *api.Expr) *api.Expr {
	for e.Kind == api.ExprLam {
		s.bind(e.Binds[0].Name, &local{typ: e.Binds[0].Type})
		e = &e.Args[0]
	}
	return e
}

func (s *survey) function(f *function, first *api.Expr) {
	s.functions = append(s.functions, f)
	f.place, f.first = len(s.functions), first
	s.begins[first.Binds[0].Name] = f
	s.open = append(s.open, f)
	s.expr(s.own(first))
	s.open = s.open[:len(s.open)-1]
}

// let knows of each Bind whether it is a function's ahead of all Values, since these may speak of each.
func (s *survey) let(binds []api.Bind) {
	for i := range binds {
		b := &binds[i]
		l := &local{typ: b.Type}
		if b.Value.Kind == api.ExprLam {
			l.is = &function{typ: b.Type}
		}
		s.bind(b.Name, l)
	}
	for i := range binds {
		b := &binds[i]
		if f := s.locals[b.Name].is; f != nil {
			s.function(f, &b.Value)
		} else {
			s.expr(&b.Value)
		}
	}
}

// speak notes a local in all functions around the place where it is spoken of, but those around the place where it is bound. A function that had been met when it was last spoken of has noted it then, and so have all around that one.
func (s *survey) speak(l *local) {
	for i := len(s.open) - 1; i >= l.depth && s.open[i].place > l.met; i-- {
		s.open[i].note(l)
	}
	l.met = len(s.functions)
}

// note notes a local that is free in the function. More than MaxArity need no note: with so many, and its own lambdas, it is too great already.
func (f *function) note(l *local) {
	if l.is != nil {
		f.needs = append(f.needs, l.is)
	} else if len(f.speaks) < api.MaxArity {
		f.speaks = append(f.speaks, l)
	}
}
