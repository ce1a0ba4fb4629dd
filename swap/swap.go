// Package swap: types put in the places of type parameters.
package swap

import "sloth/api"

// Swap says which types are put for type parameters: the type at the place of each among them. With no types all stays as it is.
type Swap struct {
	Places map[string]int
	Types  []api.Type
}

// Places tells the place of each of some parameters among them.
func Places(names []string) map[string]int {
	places := make(map[string]int, len(names))
	for i, name := range names {
		places[name] = i
	}
	return places
}

// Put makes a type with others in its parameters' places. What it makes shares parts with them.
func (s Swap) Put(t api.Type) api.Type {
	if t.Kind == api.TyVar && len(s.Types) > 0 {
		return s.Types[s.Places[t.Name]]
	}
	t.Args = s.List(t.Args)
	return t
}

// List does so with each of some types.
func (s Swap) List(l []api.Type) []api.Type {
	if len(l) == 0 || len(s.Types) == 0 {
		return l
	}
	made := make([]api.Type, len(l))
	for i := range l {
		made[i] = s.Put(l[i])
	}
	return made
}
