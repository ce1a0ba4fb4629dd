package core

import (
	"slices"

	"sloth/api"
)

func sameTypes(a, b []api.Type) bool { return slices.EqualFunc(a, b, sameType) }

func sameType(a, b api.Type) bool {
	return a.Kind == b.Kind && a.Name == b.Name && sameTypes(a.Args, b.Args)
}

func sameDatas(p, q []api.Data) bool {
	return slices.EqualFunc(p, q, func(a, b api.Data) bool {
		return a.Name == b.Name && slices.Equal(a.Params, b.Params) && slices.EqualFunc(a.Cons, b.Cons, sameCon)
	})
}

func sameCon(a, b api.Con) bool { return a.Name == b.Name && sameTypes(a.Fields, b.Fields) }

func sameDefs(p, q []api.Def) bool {
	return slices.EqualFunc(p, q, func(a, b api.Def) bool {
		n := places{map[string]int{}, map[string]int{}}
		return a.Name == b.Name && slices.Equal(a.Params, b.Params) && sameType(a.Type, b.Type) && n.same(&a.Body, &b.Body)
	})
}

// places number the local names of two definitions by the places at which they are bound: two names stand for each other, if they have one number. (No name is bound twice.)
type places [2]map[string]int

func (n places) bind(a, b string) {
	n[0][a], n[1][b] = len(n[0]), len(n[1])
}

// same tells whether two expressions are one but for local names.
func (n places) same(a, b *api.Expr) bool {
	if a.Kind != b.Kind || a.Num != b.Num || !sameTypes(a.Types, b.Types) ||
		len(a.Args) != len(b.Args) || len(a.Binds) != len(b.Binds) || len(a.Alts) != len(b.Alts) {
		return false
	}
	if a.Kind == api.ExprVar {
		return n[0][a.Name] == n[1][b.Name]
	}
	return a.Name == b.Name && n.sameBinds(a.Binds, b.Binds) && n.sameArgs(a.Args, b.Args) && n.sameAlts(a.Alts, b.Alts)
}

// sameBinds binds all names ahead of all Values, since these may speak of each.
func (n places) sameBinds(l, m []api.Bind) bool {
	for i := range l {
		n.bind(l[i].Name, m[i].Name)
	}
	for i := range l {
		if !sameType(l[i].Type, m[i].Type) || !n.same(&l[i].Value, &m[i].Value) {
			return false
		}
	}
	return true
}

func (n places) sameArgs(l, m []api.Expr) bool {
	for i := range l {
		if !n.same(&l[i], &m[i]) {
			return false
		}
	}
	return true
}

func (n places) sameAlts(l, m []api.Alt) bool {
	for i := range l {
		a, b := &l[i], &m[i]
		if a.Kind != b.Kind || a.Con != b.Con || a.Num != b.Num {
			return false
		}
		for j := range a.Vars {
			n.bind(a.Vars[j], b.Vars[j])
		}
		if !n.same(&a.Body, &b.Body) {
			return false
		}
	}
	return true
}
