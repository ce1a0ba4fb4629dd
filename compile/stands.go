package compile

import "sloth/api"

// stands tells where the names of locals stand in a definition, in the order in which it is gone through: so what stands in an expression is a piece of one list, however deep the expressions that are asked of lie in one another.
type stands struct {
	list  []stand
	last  map[string]int     // where each name stood last
	spans map[*api.Expr]span // of the expressions that may be suspended
}

// stand is a name where it is bound or spoken of.
type stand struct {
	name  string
	ahead int // where it stood last ahead of that; where it is bound: this place
}

type span struct{ from, to int }

func newStands(body *api.Expr) *stands {
	s := &stands{last: map[string]int{}, spans: map[*api.Expr]span{}}
	s.expr(body)
	return s
}

// expr goes through an expression. One that stands in several places of the same memory binds no names; so each of its spans tells the same.
func (s *stands) expr(e *api.Expr) {
	from := len(s.list)
	if e.Kind == api.ExprVar {
		s.add(e.Name, s.last[e.Name])
		return
	}
	for i := range e.Binds {
		s.bind(e.Binds[i].Name)
	}
	for i := range e.Binds {
		if e.Kind != api.ExprLam {
			s.expr(&e.Binds[i].Value)
		}
	}
	for i := range e.Args {
		s.expr(&e.Args[i])
	}
	for i := range e.Alts {
		for _, name := range e.Alts[i].Vars {
			s.bind(name)
		}
		s.expr(&e.Alts[i].Body)
	}
	if isSuspended(e) {
		s.spans[e] = span{from, len(s.list)}
	}
}

func (s *stands) bind(name string) { s.add(name, len(s.list)) }

func (s *stands) add(name string, ahead int) {
	s.last[name] = len(s.list)
	s.list = append(s.list, stand{name, ahead})
}

// free tells the names that are free in an expression, in the order in which they first stand: those that last stood ahead of it.
func (s *stands) free(e *api.Expr) []string {
	var names []string
	at := s.spans[e]
	for _, x := range s.list[at.from:at.to] {
		if x.ahead < at.from {
			names = append(names, x.name)
		}
	}
	return names
}

// isSuspended tells whether an expression, where it is to be built, becomes a global of its own.
func isSuspended(e *api.Expr) bool {
	switch e.Kind {
	case api.ExprOp, api.ExprSeq, api.ExprCase, api.ExprHard, api.ExprFail:
		return true
	}
	return false
}
