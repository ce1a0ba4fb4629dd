package compile

import (
	"sloth/api"
	"sloth/walk"
)

// work lays what makes an expression's head form.
func (s *scheme) work(e *api.Expr) {
	switch e.Kind {
	case api.ExprOp:
		s.work(&e.Args[1])
		s.work(&e.Args[0])
		s.put(api.Instr{Op: api.OpArith, A: arith(e.Name)}, -1)
	case api.ExprSeq:
		s.first(&e.Args[0])
		s.work(&e.Args[1])
	case api.ExprLet:
		s.bind(e.Binds)
		s.work(&e.Args[0])
		s.slide(len(e.Binds))
	case api.ExprHard:
		s.hard(&e.Binds[0])
		s.work(&e.Args[0])
		s.slide(1)
	case api.ExprCase:
		s.choose(e)
	default:
		s.build(e)
		if !s.isHeadForm(e) {
			s.put(api.Instr{Op: api.OpEval}, 0)
		}
	}
}

// isHeadForm tells whether an expression is one when it is built.
func (s *scheme) isHeadForm(e *api.Expr) bool {
	head, args := walk.Spine(e)
	return head.Kind == api.ExprInt || head.Kind == api.ExprCon && len(args) == s.fields[head.Name]
}

// first works out what nobody looks at.
func (s *scheme) first(e *api.Expr) {
	s.work(e)
	s.pop(1)
}

func (s *scheme) hard(b *api.Bind) {
	place := s.depth
	s.work(&b.Value)
	s.places[b.Name] = place
}

// choose works a case out: behind each body but an AltElse's, which is the last one, a jump leads to the end.
func (s *scheme) choose(e *api.Expr) {
	var jumps []int
	s.cases(e, func(a *api.Alt) {
		s.work(&a.Body)
		if a.Kind != api.AltElse {
			s.slide(len(a.Vars))
			jumps = append(jumps, s.lay(api.Instr{Op: api.OpJump}))
		}
	})
	for _, j := range jumps {
		s.lead(j)
	}
}

// cases lays what finds the alternative that fits. Whoever calls it says what is done with that, and where it leads.
func (s *scheme) cases(e *api.Expr, do func(a *api.Alt)) {
	s.work(&e.Args[0])
	depth := s.depth
	for i := range e.Alts {
		a := &e.Alts[i]
		s.depth = depth
		if a.Kind == api.AltElse {
			s.pop(1)
			do(a)
			return
		}
		test := s.test(a)
		s.take(a)
		do(a)
		s.lead(test)
	}
	s.put(api.Instr{Op: api.OpFail, A: api.StuckMatch}, 0)
}

// test lays what asks whether the top is that of an alternative.
func (s *scheme) test(a *api.Alt) int {
	if a.Kind == api.AltInt {
		return s.lay(api.Instr{Op: api.OpTestInt, A: a.Num})
	}
	return s.lay(api.Instr{Op: api.OpTestCon, A: s.shape(a.Con)})
}

// take gives the top, which is that of an alternative, place to its fields.
func (s *scheme) take(a *api.Alt) {
	if a.Kind == api.AltInt {
		s.pop(1)
		return
	}
	s.put(api.Instr{Op: api.OpSplit, A: s.shape(a.Con)}, len(a.Vars)-1)
	for i, name := range a.Vars {
		s.places[name] = s.depth - 1 - i
	}
}

// operators stand at their numbers.
var operators = []string{
	api.ArithAdd: "+",
	api.ArithSub: "-",
	api.ArithMul: "*",
	api.ArithDiv: "/",
	api.ArithRem: "%",
	api.ArithEq:  "==",
	api.ArithNe:  "/=",
	api.ArithLt:  "<",
	api.ArithLe:  "<=",
	api.ArithGt:  ">",
	api.ArithGe:  ">=",
}

// arith tells the number of an operator.
func arith(name string) int {
	for number, is := range operators {
		if is == name {
			return number
		}
	}
	return 0
}
