package core

import (
	"sloth/api"
	"sloth/nest"
)

// counter counts nodes. Those whose parts are still to be counted wait in lists, so that depth costs no stack; it stops behind the most, since a part may stand in so many places that counting all of them would not end.
type counter struct {
	nodes, most int
	types       [][]api.Type
	exprs       []*api.Expr
}

func (c *counter) isFull() bool { return c.nodes > c.most }

// program counts a program; a number above the most says no more than that.
func (c *counter) program(p api.Program) int {
	for i := range p.Datas {
		c.data(p.Datas[i].Cons)
	}
	for i := range p.Defs {
		c.nodes++
		c.typ(p.Defs[i].Type)
		c.expr(&p.Defs[i].Body)
		c.rest()
	}
	return c.nodes
}

func (c *counter) data(cons []api.Con) {
	c.nodes += 1 + len(cons)
	for i := 0; i < len(cons) && !c.isFull(); i++ {
		c.list(cons[i].Fields)
		c.rest()
	}
}

// rest counts all that waits.
func (c *counter) rest() {
	for !c.isFull() {
		if last := len(c.types) - 1; last >= 0 {
			l := c.types[last]
			c.types = c.types[:last]
			c.list(l)
		} else if last := len(c.exprs) - 1; last >= 0 {
			e := c.exprs[last]
			c.exprs = c.exprs[:last]
			c.parts(e)
		} else {
			return
		}
	}
}

func (c *counter) list(l []api.Type) {
	for i := range l {
		c.typ(l[i])
	}
}

func (c *counter) typ(t api.Type) {
	c.nodes++
	if len(t.Args) > 0 {
		c.types = append(c.types, t.Args)
	}
}

func (c *counter) expr(e *api.Expr) {
	c.nodes++
	if len(e.Types)+len(e.Args)+len(e.Binds)+len(e.Alts) > 0 {
		c.exprs = append(c.exprs, e)
	}
}

func (c *counter) parts(e *api.Expr) {
	c.list(e.Types)
	for i := range e.Args {
		c.expr(&e.Args[i])
	}
	for i := range e.Binds {
		c.nodes++
		c.typ(e.Binds[i].Type)
		c.expr(&e.Binds[i].Value)
	}
	for i := range e.Alts {
		c.nodes += 1 + len(e.Alts[i].Vars)
		c.expr(&e.Alts[i].Body)
	}
}

// isGreat tells whether a type has more nodes than may be.
func isGreat(t *api.Type) bool {
	c := counter{most: api.MaxType}
	c.typ(*t)
	c.rest()
	return c.isFull()
}

// wrongProgram tells whether a program is too great or too deep.
func wrongProgram(p api.Program) api.Errno {
	c := counter{most: api.MaxCore}
	c.program(p)
	if c.isFull() {
		return api.ErrBig
	}
	for i := range p.Defs {
		if nest.ExprAbove(&p.Defs[i].Body, api.MaxDeep) {
			return api.ErrNest
		}
	}
	return api.OK
}

// wrongExpr tells whether an expression is too great or too deep.
func wrongExpr(e *api.Expr) api.Errno {
	c := counter{most: api.MaxCore}
	c.expr(e)
	c.rest()
	switch {
	case c.isFull():
		return api.ErrBig
	case nest.ExprAbove(e, api.MaxDeep):
		return api.ErrNest
	}
	return api.OK
}
