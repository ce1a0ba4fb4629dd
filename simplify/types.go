package simplify

import (
	"sloth/api"
	"sloth/typed"
)

// typeOf tells a node's type. No rule changes the type of what it is done to, so it may be asked for at any time.
func (w *world) typeOf(n *node) api.Type {
	switch n.kind {
	case api.ExprVar:
		return w.localType(n.is)
	case api.ExprInt:
		return api.Type{Kind: api.TyInt}
	case api.ExprGlobal:
		return w.defs[n.name].At(n.types)
	case api.ExprCon:
		return w.cons[n.name].At(n.types)
	case api.ExprApp:
		return w.typeOf(n.parts[0]).Args[1]
	case api.ExprLam:
		return typed.Function([]api.Type{n.locals[0].typ}, w.typeOf(n.parts[0]))
	case api.ExprCase:
		return w.typeOf(n.parts[1])
	case api.ExprOp:
		return typed.Op(n.name)
	case api.ExprFail:
		return n.types[0]
	}
	return w.typeOf(n.body())
}

// localType tells a local's type. That of an alternative's local follows from what is looked at.
func (w *world) localType(l *local) api.Type {
	if l.typ.Kind == 0 {
		seen := w.typeOf(l.by.parts[0])
		l.typ = w.cons[l.con].Field(l.field, seen.Args)
	}
	return l.typ
}
