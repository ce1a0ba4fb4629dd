package compile

import (
	"slices"

	"sloth/api"
	"sloth/walk"
)

// scheme is the state in which the code of one global is laid.
type scheme struct {
	list
	*definition
	places map[string]int // of the locals
	depth  int            // behind the last instruction
}

func newScheme(d *definition, params []string) *scheme {
	s := &scheme{definition: d, places: map[string]int{}, depth: len(params) + 1}
	for i, name := range params {
		s.places[name] = len(params) - i
	}
	return s
}

// put lays an instruction that makes the stack so much deeper.
func (s *scheme) put(x api.Instr, deeper int) {
	s.lay(x)
	s.depth += deeper
}

func (s *scheme) push(local string) {
	s.put(api.Instr{Op: api.OpPush, A: s.depth - 1 - s.places[local]}, 1)
}

func (s *scheme) global(number int) { s.put(api.Instr{Op: api.OpGlobal, A: number}, 1) }

func (s *scheme) apply(times int) {
	for range times {
		s.put(api.Instr{Op: api.OpApply}, -1)
	}
}

func (s *scheme) pack(con string) {
	s.put(api.Instr{Op: api.OpPack, A: s.shape(con)}, 1-s.fields[con])
}

func (s *scheme) pop(nodes int) { s.put(api.Instr{Op: api.OpPop, A: nodes}, -nodes) }

// slide takes away so many below the top.
func (s *scheme) slide(nodes int) {
	if nodes > 0 {
		s.put(api.Instr{Op: api.OpSlide, A: nodes}, -nodes)
	}
}

func (s *scheme) update(place int) { s.put(api.Instr{Op: api.OpUpdate, A: place}, -1) }

// close ends a global whose node the top is to be.
func (s *scheme) close() {
	s.update(s.depth - 1)
	if s.depth > 1 {
		s.pop(s.depth - 1)
	}
	s.put(api.Instr{Op: api.OpUnwind}, 0)
}

// build lays what makes an expression's node, as it is.
func (s *scheme) build(e *api.Expr) {
	switch e.Kind {
	case api.ExprVar:
		s.push(e.Name)
	case api.ExprInt:
		s.put(api.Instr{Op: api.OpInt, A: e.Num}, 1)
	case api.ExprGlobal:
		s.global(s.defs[e.Name])
	case api.ExprCon, api.ExprApp:
		s.spine(e)
	case api.ExprLet:
		s.bind(e.Binds)
		s.build(&e.Args[0])
		s.slide(len(e.Binds))
	default:
		s.suspended(e)
	}
}

// spine builds an application, or a constructor alone, the last argument first.
func (s *scheme) spine(e *api.Expr) {
	head, args := walk.Spine(e)
	for _, a := range slices.Backward(args) {
		s.build(a)
	}
	switch {
	case head.Kind != api.ExprCon:
		s.build(head)
		s.apply(len(args))
	case len(args) < s.fields[head.Name]:
		s.global(s.function(head.Name))
		s.apply(len(args))
	default:
		s.pack(head.Name)
	}
}

// bind gives each name of an ExprLet a node, then each node what it is: so each may speak of all.
func (s *scheme) bind(binds []api.Bind) {
	for i := range binds {
		s.places[binds[i].Name] = s.depth + i
	}
	s.put(api.Instr{Op: api.OpAlloc, A: len(binds)}, len(binds))
	for i := range binds {
		s.build(&binds[i].Value)
		s.update(len(binds) - i)
	}
}

// suspended builds an expression as a global of its own, applied to the locals that it speaks of.
func (s *scheme) suspended(e *api.Expr) {
	number, params := s.suspend(e)
	for _, name := range slices.Backward(params) {
		s.push(name)
	}
	s.global(number)
	s.apply(len(params))
}
