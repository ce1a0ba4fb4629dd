package worker

import (
	"sloth/api"
	"sloth/walk"
)

// world is what is known of the definitions, by their names: their parameters.
type world map[string][]param

// param is a parameter of a definition.
type param struct {
	typ      api.Type
	isNeeded bool
}

func learn(defs []api.Def, signatures []api.Signature) world {
	w := make(world, len(defs))
	for i := range defs {
		w[defs[i].Name] = paramsOf(&defs[i].Body, signatures[i].Args)
	}
	return w
}

// paramsOf tells the parameters of a definition by its Body and the numbers of its signature; where that is not Known, these are 0. A function's number tells of what it answers, not of the function, which is none that is worked out first.
func paramsOf(body *api.Expr, numbers []int) []param {
	var l []param
	for e := body; e.Kind == api.ExprLam; e = &e.Args[0] {
		t := e.Binds[0].Type
		l = append(l, param{t, numbers[len(l)] >= api.Strict && t.Kind != api.TyFun})
	}
	return l
}

// given tells the parameters for which a spine has arguments: none, if its head is no definition, or lacks some.
func (w world) given(head *api.Expr, args int) []param {
	if head.Kind == api.ExprGlobal && len(w[head.Name]) <= args {
		return w[head.Name]
	}
	return nil
}

// next is the place of the first needed argument from a place on; if there is none, the place behind the last one.
func (w world) next(params []param, args []*api.Expr, from int) int {
	found := len(args)
search:
	for at := from; at < len(params); at++ {
		switch {
		case !params[at].isNeeded:
		case w.waits(args[at]):
			found = at
			break search
		}
	}
	return found
}

// waits tells whether there is something in an expression to be worked out.
func (w world) waits(e *api.Expr) bool {
	switch head, args := walk.Spine(e); head.Kind {
	case api.ExprVar:
		return len(args) > 0
	case api.ExprGlobal:
		return len(args) > 0 && len(w[head.Name]) <= len(args)
	case api.ExprInt, api.ExprCon:
		return false
	}
	return true
}
