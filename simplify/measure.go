package simplify

import (
	"sloth/api"
	"sloth/typed"
)

// measure is how many nodes something has, when types are put in the places of type parameters.
type measure struct {
	nodes int         // all but the parameters
	times map[int]int // how often each parameter stands in it
}

// add counts a type.
func (m *measure) add(t api.Type, params map[string]int) {
	if t.Kind == api.TyVar {
		if m.times == nil {
			m.times = map[int]int{}
		}
		m.times[params[t.Name]]++
		return
	}
	m.nodes++
	for _, a := range t.Args {
		m.add(a, params)
	}
}

// with tells the nodes, where what is put in the parameters' places has so many.
func (m measure) with(sizes []int) int {
	nodes := m.nodes
	for param, times := range m.times {
		nodes += times * sizes[param]
	}
	return nodes
}

// sizesOf tells how many nodes each of some types has.
func sizesOf(l []api.Type) []int {
	sizes := make([]int, len(l))
	for i, t := range l {
		sizes[i] = typed.Nodes(t)
	}
	return sizes
}

// copying measures the copies of a Body: each as core.Size counts it, and all types in it in which parameters stand.
type copying struct {
	params map[string]int
	whole  measure
	types  []measure
}

// measured tells how great the copies of a definition's Body are.
func (r *round) measured(name string) *copying {
	b := r.bodies[name]
	if b.copies == nil {
		b.copies = &copying{params: r.defs[name].Params}
		b.copies.expr(r.world, nodesOf(b.expr))
	}
	return b.copies
}

func (c *copying) expr(w *world, n *node) {
	c.whole.nodes++
	for _, t := range n.types {
		c.whole.add(t, c.params)
		c.typ(t)
	}
	for _, l := range n.locals {
		c.whole.nodes++
		c.whole.add(l.typ, c.params)
		c.typ(l.typ)
		if n.kind == api.ExprLam {
			c.whole.nodes++ // the zero Expr of a Bind without Value
		}
	}
	for _, a := range n.alts {
		c.whole.nodes += 1 + len(a.vars)
		for _, l := range a.vars {
			c.typ(w.localType(l))
		}
	}
	c.typ(w.typeOf(n))
	for _, part := range n.parts {
		c.expr(w, part)
	}
}

// typ notes a type that stands in the Body, or that something in it has. One without parameters is never too great.
func (c *copying) typ(t api.Type) {
	var m measure
	m.add(t, c.params)
	if len(m.times) > 0 {
		c.types = append(c.types, m)
	}
}
