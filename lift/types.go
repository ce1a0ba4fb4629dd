package lift

import (
	"sloth/api"
	"sloth/typed"
)

// typeOf tells the type of an expression as it stood in the program that was handed in.
func (s *survey) typeOf(e *api.Expr) api.Type {
	switch e.Kind {
	case api.ExprVar:
		return s.localType(s.locals[e.Name])
	case api.ExprInt:
		return api.Type{Kind: api.TyInt}
	case api.ExprGlobal:
		return s.defs[e.Name]
	case api.ExprCon:
		return s.cons[e.Name].At(e.Types)
	case api.ExprApp:
		return s.typeOf(&e.Args[0]).Args[1]
	case api.ExprLam:
		if f, ok := s.begins[e.Binds[0].Name]; ok {
			return s.functionType(f)
		}
		return s.lamType(e)
	case api.ExprLet:
		return s.typeOf(&e.Args[0])
	case api.ExprCase:
		return s.typeOf(&e.Alts[0].Body)
	case api.ExprOp:
		return typed.Op(e.Name)
	case api.ExprSeq:
		return s.typeOf(&e.Args[1])
	}
	return e.Types[0] // ExprFail
}

func (s *survey) lamType(e *api.Expr) api.Type {
	return typed.Function([]api.Type{e.Binds[0].Type}, s.typeOf(&e.Args[0]))
}

// functionType tells a function's type. Functions within functions may be asked for it again and again, so it is kept.
func (s *survey) functionType(f *function) api.Type {
	if f.typ.Kind == 0 {
		f.typ = s.lamType(f.first)
	}
	return f.typ
}

// localType tells a local's type. That of an alternative's local follows from what is looked at.
func (s *survey) localType(l *local) api.Type {
	if l.typ.Kind == 0 {
		seen := s.typeOf(&l.by.Args[0])
		l.typ = s.cons[l.con].Field(l.field, seen.Args)
	}
	return l.typ
}
