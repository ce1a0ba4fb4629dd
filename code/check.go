package code

import "sloth/api"

// isBig tells whether there is more of something than may be in a table.
func isBig(t api.Table) bool {
	if len(t.Shapes) > api.MaxGlobals || len(t.Globals) > api.MaxGlobals {
		return true
	}
	all := 0
	for i := range t.Globals {
		n := len(t.Globals[i].Code)
		if n > api.MaxCode {
			return true
		}
		all += n
	}
	return all > api.MaxInstrs
}

func isName(name string) bool {
	if len(name) < 1 || len(name) > api.MaxName {
		return false
	}
	for i := range len(name) {
		if name[i] < 32 || name[i] > 126 {
			return false
		}
	}
	return true
}

// names are those that stood ahead.
type names map[string]struct{}

// add tells whether a name may be, and is none of those ahead.
func (l names) add(name string) bool {
	if !isName(name) {
		return false
	}
	if _, twice := l[name]; twice {
		return false
	}
	l[name] = struct{}{}
	return true
}

// firstShapes are those with which every table begins.
var firstShapes = []api.Shape{
	api.ShapeFalse:  {Name: "False"},
	api.ShapeTrue:   {Name: "True"},
	api.ShapeUnit:   {Name: "Unit"},
	api.ShapeNil:    {Name: "Nil"},
	api.ShapeCons:   {Name: "Cons", Fields: 2},
	api.ShapePair:   {Name: "Pair", Fields: 2},
	api.ShapeTriple: {Name: "Triple", Fields: 3},
}

func hasShapes(l []api.Shape) bool {
	ahead := names{}
	for _, s := range l {
		if !ahead.add(s.Name) || s.Fields < 0 || s.Fields > api.MaxFields {
			return false
		}
	}
	if len(l) < len(firstShapes) {
		return false
	}
	for i, s := range firstShapes {
		if l[i] != s {
			return false
		}
	}
	return true
}

func hasGlobals(l []api.Global) bool {
	ahead := names{}
	for i := range l {
		g := &l[i]
		if !ahead.add(g.Name) || g.Arity < 0 || g.Arity > api.MaxArity {
			return false
		}
	}
	return true
}

// wrongCode tells what is wrong with the code of a global, in a table whose names are right.
func wrongCode(t api.Table, g *api.Global) api.Errno {
	for i, x := range g.Code {
		if !isOp(x.Op) || !fits(t, rows[x.Op].a, x.A) || !fits(t, rows[x.Op].b, x.B) {
			return api.ErrCodeName
		}
		if to, ok := targetOf(x); ok && (to <= i || to >= len(g.Code)) {
			return api.ErrCodeFlow
		}
	}
	return wrongFlow(t.Shapes, g)
}

// fits tells whether a number is what it is to be; which instruction is meant is left out of that.
func fits(t api.Table, kind, n int) bool {
	switch kind {
	case none:
		return n == 0
	case fromZero:
		return n >= 0
	case fromOne:
		return n >= 1
	case integer:
		return isInteger(n)
	case shape:
		return 0 <= n && n < len(t.Shapes)
	case global:
		return 0 <= n && n < len(t.Globals)
	case operator:
		return api.ArithAdd <= n && n <= api.ArithGe
	case reason:
		return api.StuckStop <= n && n <= api.StuckLoop
	}
	return true
}

// targetOf tells the instruction that an instruction may jump to, if there is one.
func targetOf(x api.Instr) (int, bool) {
	switch r := rows[x.Op]; {
	case r.a == target:
		return x.A, true
	case r.b == target:
		return x.B, true
	}
	return 0, false
}
