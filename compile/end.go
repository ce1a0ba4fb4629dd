package compile

import "sloth/api"

// end lays what ends a global with an expression.
func (s *scheme) end(e *api.Expr) {
	switch e.Kind {
	case api.ExprFail:
		s.put(api.Instr{Op: api.OpFail, A: e.Num}, 0)
	case api.ExprSeq:
		s.first(&e.Args[0])
		s.end(&e.Args[1])
	case api.ExprLet:
		s.bind(e.Binds)
		s.end(&e.Args[0])
	case api.ExprHard:
		s.hard(&e.Binds[0])
		s.end(&e.Args[0])
	case api.ExprCase:
		s.cases(e, func(a *api.Alt) { s.end(&a.Body) })
	case api.ExprOp:
		s.work(e)
		s.close()
	default: // what is a head form already is worked out as it is built
		s.build(e)
		s.close()
	}
}
