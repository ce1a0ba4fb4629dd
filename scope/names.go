package scope

import (
	"strings"

	"sloth/api"
)

// The kinds of names, which have nothing to do with one another.
const (
	aType = 1 + iota
	aCon
	aValue
)

// key is a name of one kind.
type key struct {
	kind int
	name string
}

// thing is what a name means: its name in the answer, and how many parameters (a type) or fields (a constructor) it has.
type thing struct {
	name string
	size int
}

// things stand by the names under which they are known.
type things map[key]thing

// intName is told of no type in the answer but in this package: there Int has a kind of its own, and no name.
const intName = "Int"

func builtIns() things {
	built := things{
		{aType, intName}: {intName, 0},
		{aType, "Bool"}:  {"Bool", 0},
		{aType, "[]"}:    {"List", 1},
		{aType, "()"}:    {"Unit", 0},
		{aType, "(,)"}:   {"Pair", 2},
		{aType, "(,,)"}:  {"Triple", 3},
		{aCon, "False"}:  {"False", 0},
		{aCon, "True"}:   {"True", 0},
		{aCon, ":"}:      {"Cons", 2},
		{aCon, "[]"}:     {"Nil", 0},
		{aCon, "()"}:     {"Unit", 0},
		{aCon, "(,)"}:    {"Pair", 2},
		{aCon, "(,,)"}:   {"Triple", 3},
	}
	for _, name := range [...]string{"+", "-", "*", "/", "%", "==", "/=", "<", "<=", ">", ">=", "seq", "stop"} {
		built[key{aValue, name}] = thing{name: name}
	}
	return built
}

// hasCapital tells whether a name begins with a capital: of items a type's or constructor's does, of values one that names its module.
func hasCapital(name string) bool {
	return 'A' <= name[0] && name[0] <= 'Z'
}

// apart parts a name that names its module. (An operator may have a point too.)
func apart(name string) (module, plain string, ok bool) {
	if !hasCapital(name) {
		return "", "", false
	}
	return strings.Cut(name, ".")
}

// view is what a module sees of one that it imports.
type view struct {
	api.Import
	given  things
	listed map[string]int
}

func newView(i api.Import, given things) view {
	v := view{Import: i, given: given, listed: make(map[string]int, len(i.Names))}
	for _, item := range i.Names {
		v.listed[item]++
	}
	return v
}

func (v view) find(k key) (thing, bool) {
	if v.Some && v.listed[k.name] == 0 {
		return thing{}, false
	}
	found, ok := v.given[k]
	return found, ok
}

// gives tells whether the module has something that an item can mean, listed or not.
func (v view) gives(item string) bool {
	if !hasCapital(item) {
		return v.given.has(aValue, item)
	}
	return v.given.has(aType, item) || v.given.has(aCon, item)
}

func (t things) has(kind int, name string) bool {
	_, ok := t[key{kind, name}]
	return ok
}

// scope says what names mean in a place where locals may be.
type scope interface {
	con(name string) (thing, api.Errno)
	value(name string) (thing, api.Errno)
	isBuiltIn(value string) bool
}

// outer is the scope of a module, outside all locals.
type outer struct {
	module *api.Module
	built  things
	own    things
	views  []view
}

func newOuter(m *api.Module, built things, given map[string]things) *outer {
	o := &outer{module: m, built: built, own: things{}}
	for _, i := range m.Imports {
		o.views = append(o.views, newView(i, given[i.Module]))
	}
	return o
}

func (o *outer) typ(name string) (thing, api.Errno)   { return o.find(key{aType, name}) }
func (o *outer) con(name string) (thing, api.Errno)   { return o.find(key{aCon, name}) }
func (o *outer) value(name string) (thing, api.Errno) { return o.find(key{aValue, name}) }
func (o *outer) isBuiltIn(value string) bool          { return o.built.has(aValue, value) }

func (o *outer) find(k key) (thing, api.Errno) {
	if module, name, ok := apart(k.name); ok {
		return o.findOf(module, key{k.kind, name})
	}
	if found, ok := o.own[k]; ok {
		return found, api.OK
	}
	if found, ok := o.built[k]; ok {
		return found, api.OK
	}
	return o.findAbroad(k)
}

// findOf finds what a module that is named gives.
func (o *outer) findOf(module string, k key) (thing, api.Errno) {
	if found, ok := o.own[k]; ok && module == o.module.Name {
		return found, api.OK
	}
	for _, v := range o.views {
		if found, ok := v.find(k); ok && module == v.Module {
			return found, api.OK
		}
	}
	return thing{}, api.ErrScopeName
}

// findAbroad finds what just one of the imported modules gives.
func (o *outer) findAbroad(k key) (thing, api.Errno) {
	var all []thing
	for _, v := range o.views {
		if found, ok := v.find(k); ok {
			all = append(all, found)
		}
	}
	switch len(all) {
	case 0:
		return thing{}, api.ErrScopeName
	case 1:
		return all[0], api.OK
	}
	return thing{}, api.ErrScopeTwo
}

// locals is the scope of some local names within another one: all that is not found in it means what it means there.
type locals struct {
	scope
	names map[string]int
}

func newLocals(around scope) *locals {
	return &locals{around, map[string]int{}}
}

func (in *locals) value(name string) (thing, api.Errno) {
	if in.names[name] > 0 {
		return thing{name: name}, api.OK
	}
	return in.scope.value(name)
}

// add takes a name that a pattern or a let gives.
func (in *locals) add(name string) api.Errno {
	if in.isBuiltIn(name) || in.names[name] > 0 {
		return api.ErrScopeTwice
	}
	in.names[name]++
	return api.OK
}
