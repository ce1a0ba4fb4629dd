package simplify

import (
	"sloth/api"
	"sloth/swap"
)

func function(from, to api.Type) api.Type {
	return api.Type{Kind: api.TyFun, Args: []api.Type{from, to}}
}

// at is a general type where types stand for its parameters.
func (g general) at(types []api.Type) api.Type {
	return swap.Swap{Places: g.params, Types: types}.Put(g.is)
}

// typeOf tells a node's type. No rule changes the type of what it is done to, so it may be asked for at any time.
func (w *world) typeOf(n *node) api.Type {
	switch n.kind {
	case api.ExprVar:
		return w.localType(n.is)
	case api.ExprInt:
		return api.Type{Kind: api.TyInt}
	case api.ExprGlobal:
		return w.defs[n.name].at(n.types)
	case api.ExprCon:
		return w.cons[n.name].at(n.types)
	case api.ExprApp:
		return w.typeOf(n.parts[0]).Args[1]
	case api.ExprLam:
		return function(n.locals[0].typ, w.typeOf(n.parts[0]))
	case api.ExprCase:
		return w.typeOf(n.parts[1])
	case api.ExprOp:
		return opType(n.name)
	case api.ExprFail:
		return n.types[0]
	}
	return w.typeOf(n.body())
}

func opType(op string) api.Type {
	switch op {
	case "+", "-", "*", "/", "%":
		return api.Type{Kind: api.TyInt}
	}
	return api.Type{Kind: api.TyData, Name: "Bool"}
}

// localType tells a local's type. That of an alternative's local follows from what is looked at.
func (w *world) localType(l *local) api.Type {
	if l.typ.Kind == 0 {
		c := w.cons[l.con]
		seen := w.typeOf(l.by.parts[0])
		l.typ = swap.Swap{Places: c.params, Types: seen.Args}.Put(c.fields[l.field])
	}
	return l.typ
}
