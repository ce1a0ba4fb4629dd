package types

import (
	"iter"
	"maps"
	"slices"
	"strconv"

	"sloth/api"
)

// variablesOf goes through a type's variables in the order in which they stand, each as often as it stands.
func variablesOf(t api.Type) iter.Seq[string] {
	return func(yield func(string) bool) { eachVariable(t, yield) }
}

// eachVariable tells whether it came to the end.
func eachVariable(t api.Type, yield func(string) bool) bool {
	if t.Kind == api.TyVar {
		return yield(t.Name)
	}
	for _, a := range t.Args {
		if !eachVariable(a, yield) {
			return false
		}
	}
	return true
}

func nodesOf(t api.Type) int {
	nodes := 1
	for _, a := range t.Args {
		nodes += nodesOf(a)
	}
	return nodes
}

// values are what variables stand for, by their names.
type values map[string]api.Type

// valuesOf tells what Bounds say, or what is wrong with the first of them with which something is.
func valuesOf(l []api.Bound) (values, api.Errno) {
	v := make(values, len(l))
	for _, b := range l {
		if _, ok := v[b.Name]; ok || !isVariable(b.Name) {
			return nil, api.ErrTypesForm
		}
		if code := wrong(b.Type); code != api.OK {
			return nil, code
		}
		v[b.Name] = b.Type
	}
	return v, api.OK
}

// isAbove tells whether a type with the values in their places has more nodes than may be.
func (v values) isAbove(t api.Type) bool {
	nodes := nodesOf(t)
	for name := range variablesOf(t) {
		if value, ok := v[name]; ok {
			nodes += nodesOf(value) - 1
		}
		if nodes > api.MaxType {
			return true
		}
	}
	return false
}

// put makes a type anew, with the values in their places.
func (v values) put(t api.Type) api.Type {
	if value, ok := v[t.Name]; ok && t.Kind == api.TyVar {
		return anew(value)
	}
	made := api.Type{Kind: t.Kind, Name: t.Name}
	for _, a := range t.Args {
		made.Args = append(made.Args, v.put(a))
	}
	return made
}

// anew is the type in memory of its own.
func anew(t api.Type) api.Type {
	return values{}.put(t)
}

// fit finds the values with which a general type is a special one, and tells whether there are some.
func (v values) fit(general, special api.Type) bool {
	if general.Kind == api.TyVar {
		value, ok := v[general.Name]
		if !ok {
			v[general.Name] = special
		}
		return !ok || same(value, special)
	}
	return alike(general, special, v.fit)
}

func same(a, b api.Type) bool {
	return alike(a, b, same)
}

// alike tells whether two types are one but for their Args, and these do what they should.
func alike(a, b api.Type, args func(a, b api.Type) bool) bool {
	return a.Kind == b.Kind && a.Name == b.Name && slices.EqualFunc(a.Args, b.Args, args)
}

// list tells the values as Bounds, made anew.
func (v values) list() []api.Bound {
	var l []api.Bound
	for _, name := range slices.Sorted(maps.Keys(v)) {
		l = append(l, api.Bound{Name: name, Type: anew(v[name])})
	}
	return l
}

// canonName tells the name of the variable that comes behind so many others.
func canonName(behind int) string {
	const letters = "abcdefghijklmnopqrstuvwxyz"
	letter, round := behind%len(letters), behind/len(letters)
	name := letters[letter : letter+1]
	if round > 0 {
		name += strconv.Itoa(round)
	}
	return name
}
