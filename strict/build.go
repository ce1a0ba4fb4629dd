package strict

import (
	"slices"

	"sloth/api"
	"sloth/typed"
)

// builder makes the nodes of a definition.
type builder struct {
	*world
	def   *definition
	names map[string]*name // none is bound twice, and none is spoken of where it is not bound: so none is ever taken out
}

// part is what is known of an expression.
type part struct {
	node   node
	typ    api.Type
	weight int
}

// name is a local name, with what it is as an expression.
type name struct {
	part
	place  int
	late   func() part // of a field: makes the part when it is first spoken of, as there may be very many of great types
	spoken *bool       // of an ExprLet's name: whether one of its names was spoken of so far
}

// build makes the node of a definition's body, and finds out what it weighs and which others it speaks of.
func (w *world) build(d *definition, body *api.Expr) {
	b := &builder{world: w, def: d, names: map[string]*name{}}
	for ; body.Kind == api.ExprLam; body = &body.Args[0] {
		b.bind(body.Binds[0].Name, body.Binds[0].Type)
		d.weight++
	}
	made := b.expr(body)
	d.body, d.weight = made.node, plus(d.weight, made.weight)
	slices.Sort(d.needs)
	d.needs = slices.Compact(d.needs)
}

// place is that of an element more.
func (b *builder) place() int {
	b.def.locals++
	return b.def.locals - 1
}

// bind gives a name a place.
func (b *builder) bind(called string, t api.Type) *name {
	place := b.place()
	n := &name{part: part{local(place), t, 1}, place: place}
	b.names[called] = n
	return n
}

func (b *builder) speak(n *name) part {
	if n.late != nil {
		n.part, n.late = n.late(), nil
	}
	if n.spoken != nil {
		*n.spoken = true
	}
	return n.part
}

func (b *builder) expr(e *api.Expr) part {
	switch e.Kind {
	case api.ExprVar:
		return b.speak(b.names[e.Name])
	case api.ExprInt:
		return part{constant(1), api.Type{Kind: api.TyInt}, 1}
	case api.ExprGlobal, api.ExprCon, api.ExprApp:
		return b.spine(e)
	case api.ExprLet:
		return b.let(e)
	case api.ExprCase:
		return b.cases(e)
	case api.ExprOp:
		x, y := b.expr(&e.Args[0]), b.expr(&e.Args[1])
		return part{&both{x.node, y.node}, typed.Op(e.Name), plus(1, plus(x.weight, y.weight))}
	case api.ExprSeq:
		first, made := b.expr(&e.Args[0]), b.expr(&e.Args[1])
		made.weight = plus(1, plus(first.weight, made.weight))
		made.node = b.ahead(first.node, first.typ, made.node)
		return made
	case api.ExprHard:
		return b.hard(e)
	}
	return part{constant(0), e.Types[0], 1} // ExprFail
}

// ahead is a node, ahead of which something of that type is worked out.
func (b *builder) ahead(first node, t api.Type, body node) node {
	if !b.orderOf(t).isPlain() {
		return body
	}
	return &behind{first, body}
}

func (b *builder) hard(e *api.Expr) part {
	bind := &e.Binds[0]
	value := b.expr(&bind.Value)
	n := b.bind(bind.Name, bind.Type)
	made := b.expr(&e.Args[0])
	made.weight = plus(1, plus(value.weight, made.weight))
	made.node = &lets{places: []int{n.place}, values: []node{value.node}, body: b.ahead(n.node, bind.Type, made.node)}
	return made
}

func (b *builder) let(e *api.Expr) part {
	made, elements, weight, spoken := &lets{}, 0, 0, false
	for i := range e.Binds {
		bind := &e.Binds[i]
		n := b.bind(bind.Name, bind.Type)
		n.spoken = &spoken
		made.places = append(made.places, n.place)
		elements = plus(elements, b.orderOf(bind.Type).size)
	}
	for i := range e.Binds {
		value := b.expr(&e.Binds[i].Value)
		made.values = append(made.values, value.node)
		weight = plus(weight, value.weight)
	}
	if spoken { // by a Value: the body is built behind this
		made.loops = true
		weight = times(weight, plus(elements, 1))
	}
	body := b.expr(&e.Args[0])
	made.body = body.node
	return part{made, body.typ, plus(1, plus(weight, body.weight))}
}
