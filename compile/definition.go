package compile

import (
	"strconv"

	"sloth/api"
)

// definition makes the globals of one definition: its own, and those of its suspended expressions, which may be met in one another.
type definition struct {
	*maker
	name    string
	number  int // of the last suspended expression
	stands  *stands
	waiting []body
}

// body is that of a global whose code is still to be made.
type body struct {
	global int
	params []string
	is     *api.Expr
}

func newDefinition(m *maker, d *api.Def) *definition {
	made := &definition{maker: m, name: d.Name, stands: newStands(&d.Body)}
	own := body{global: m.defs[d.Name], is: &d.Body}
	for own.is.Kind == api.ExprLam {
		own.params = append(own.params, own.is.Binds[0].Name)
		own.is = &own.is.Args[0]
	}
	made.waiting = []body{own}
	return made
}

func (d *definition) make() bool {
	for next := 0; next < len(d.waiting); next++ {
		b := d.waiting[next]
		if len(b.params) > api.MaxArity || len(d.globals) > api.MaxGlobals {
			return false
		}
		s := newScheme(d, b.params)
		s.end(b.is)
		g := &d.globals[b.global]
		g.Arity, g.Code = len(b.params), s.code
	}
	return true
}

// suspend lets an expression wait, to become a global of its own, and tells the number of that, and its parameters.
func (d *definition) suspend(e *api.Expr) (int, []string) {
	b := body{global: d.add(api.Global{Name: d.nextName()}), params: d.stands.free(e), is: e}
	d.waiting = append(d.waiting, b)
	return b.global, b.params
}

// nextName is the name of the next suspended expression.
func (d *definition) nextName() string {
	for {
		d.number++
		name := d.name + "!" + strconv.Itoa(d.number)
		if _, isTaken := d.defs[name]; !isTaken {
			return name
		}
	}
}
