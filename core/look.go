package core

import "sloth/api"

// looker looks at the expressions of one definition. Its calls answer an expression's type; nil, if something is wrong: code says what.
type looker struct {
	*world
	known  *variables
	locals map[string]*local // all names that were bound so far
	code   api.Errno
}

// local is a name that is bound; it is seen only where it may be spoken of.
type local struct {
	is   *shape
	seen bool
}

func newLooker(w *world, known *variables) *looker {
	return &looker{world: w, known: known, locals: map[string]*local{}}
}

func (k *looker) fail(code api.Errno) *shape {
	k.code = code
	return nil
}

// given binds names that are seen at once.
func (k *looker) given(l []api.Bind) bool {
	for i := range l {
		if k.bind(&l[i]) == nil {
			return false
		}
	}
	k.see(l, true)
	return true
}

func (k *looker) expr(e *api.Expr) *shape {
	if !hasForm(e) {
		return k.fail(api.ErrCoreForm)
	}
	switch e.Kind {
	case api.ExprVar:
		return k.local(e.Name)
	case api.ExprInt:
		return k.integer
	case api.ExprGlobal:
		g, ok := k.defs[e.Name]
		return k.instance(g, ok, e.Types)
	case api.ExprCon:
		c, ok := k.cons[e.Name]
		return k.instance(c.general, ok, e.Types)
	case api.ExprApp:
		return k.app(e)
	case api.ExprLam:
		return k.lam(e)
	case api.ExprLet:
		return k.let(e)
	case api.ExprCase:
		return k.cases(e)
	case api.ExprOp:
		return k.op(e)
	case api.ExprSeq:
		_, second := k.two(e)
		return second
	case api.ExprHard:
		return k.hard(e)
	}
	return k.typ(&e.Types[0])
}

func (k *looker) local(name string) *shape {
	l, ok := k.locals[name]
	if !ok || !l.seen {
		return k.fail(api.ErrCoreName)
	}
	return l.is
}

func (k *looker) typ(t *api.Type) *shape {
	s := k.right(t, k.known)
	if s == nil {
		return k.fail(api.ErrCoreType)
	}
	return s
}

// instance is the type of something general, if that is there, with types for its parameters.
func (k *looker) instance(g general, ok bool, types []api.Type) *shape {
	if !ok {
		return k.fail(api.ErrCoreName)
	}
	if len(types) != len(g.params.names) {
		return k.fail(api.ErrCoreType)
	}
	l := make([]*shape, len(types))
	for i := range types {
		if l[i] = k.typ(&types[i]); l[i] == nil {
			return nil
		}
	}
	return k.with(g.is, l)
}

// with is a type with others for its parameters, if that is not too great.
func (k *looker) with(s *shape, l []*shape) *shape {
	if s.nodesWith(l) > api.MaxType {
		return k.fail(api.ErrCoreType)
	}
	return s.put(l)
}

// two looks at both Args; the second answer is nil, if something is wrong with one of them.
func (k *looker) two(e *api.Expr) (first, second *shape) {
	if first = k.expr(&e.Args[0]); first != nil {
		second = k.expr(&e.Args[1])
	}
	return first, second
}

func (k *looker) app(e *api.Expr) *shape {
	f, x := k.two(e)
	if x == nil {
		return nil
	}
	if f.kind != api.TyFun || !same(f.args[0], x) {
		return k.fail(api.ErrCoreType)
	}
	return f.args[1]
}

func (k *looker) op(e *api.Expr) *shape {
	a, b := k.two(e)
	switch {
	case b == nil:
		return nil
	case a.kind != api.TyInt || b.kind != api.TyInt:
		return k.fail(api.ErrCoreType)
	case isComparison(e.Name):
		return k.truth
	}
	return k.integer
}

// bind notes a name, which is not seen as yet.
func (k *looker) bind(b *api.Bind) *shape {
	if !k.take(b.Name) {
		return nil
	}
	s := k.typ(&b.Type)
	k.locals[b.Name].is = s
	return s
}

// take notes a name that is bound nowhere else.
func (k *looker) take(name string) bool {
	if _, twice := k.locals[name]; twice || !isName(name) {
		k.code = api.ErrCoreName
		return false
	}
	k.locals[name] = &local{}
	return true
}

func (k *looker) see(l []api.Bind, seen bool) {
	for i := range l {
		k.locals[l[i].Name].seen = seen
	}
}

// inside looks at the body of an expression, where its Binds are seen.
func (k *looker) inside(e *api.Expr) *shape {
	k.see(e.Binds, true)
	s := k.expr(&e.Args[0])
	k.see(e.Binds, false)
	return s
}

func (k *looker) lam(e *api.Expr) *shape {
	of := k.bind(&e.Binds[0])
	if of == nil {
		return nil
	}
	to := k.inside(e)
	if to == nil {
		return nil
	}
	s := newShape(api.TyFun, 0, of, to)
	if s.nodes > api.MaxType {
		return k.fail(api.ErrCoreType)
	}
	return s
}

func (k *looker) let(e *api.Expr) *shape {
	if !k.given(e.Binds) {
		return nil
	}
	for i := range e.Binds {
		if !k.value(&e.Binds[i]) {
			return nil
		}
	}
	return k.inside(e)
}

func (k *looker) hard(e *api.Expr) *shape {
	b := &e.Binds[0]
	if k.bind(b) == nil || !k.value(b) {
		return nil
	}
	return k.inside(e)
}

// value tells whether the Value of a Bind is right, and of its type.
func (k *looker) value(b *api.Bind) bool {
	s := k.expr(&b.Value)
	if s != nil && !same(s, k.locals[b.Name].is) {
		s = k.fail(api.ErrCoreType)
	}
	return s != nil
}

// tell is a shape as a type, in memory of its own.
func (k *looker) tell(s *shape) api.Type {
	t := api.Type{Kind: s.kind}
	switch s.kind {
	case api.TyVar:
		t.Name = k.known.names[s.num]
	case api.TyData:
		t.Name = k.datas[s.num].name
	}
	for _, a := range s.args {
		t.Args = append(t.Args, k.tell(a))
	}
	return t
}
