package core

import (
	"slices"

	"sloth/api"
)

// shape is a type that is right, with numbers for its names, so that no name is looked at when types are held against each other or put in variables' places. Shapes share parts, and are never changed.
type shape struct {
	kind  int // as of api.Type
	num   int // TyVar: which variable; TyData: which data type
	args  []*shape
	nodes int
	open  bool // has it variables?
}

func newShape(kind, num int, args ...*shape) *shape {
	s := &shape{kind: kind, num: num, args: args, nodes: 1, open: kind == api.TyVar}
	for _, a := range args {
		s.nodes += a.nodes
		s.open = s.open || a.open
	}
	return s
}

func same(a, b *shape) bool {
	return a == b || a.kind == b.kind && a.num == b.num && a.nodes == b.nodes && slices.EqualFunc(a.args, b.args, same)
}

// nodesWith tells how many nodes put would make. No node becomes fewer, so that what is too great already needs no count.
func (s *shape) nodesWith(l []*shape) int {
	switch {
	case !s.open || s.nodes > api.MaxType:
		return s.nodes
	case s.kind == api.TyVar:
		return l[s.num].nodes
	}
	nodes := 1
	for _, a := range s.args {
		nodes += a.nodesWith(l)
	}
	return nodes
}

// put is the shape with others in its variables' places.
func (s *shape) put(l []*shape) *shape {
	switch {
	case !s.open:
		return s
	case s.kind == api.TyVar:
		return l[s.num]
	}
	args := make([]*shape, len(s.args))
	for i, a := range s.args {
		args[i] = a.put(l)
	}
	return newShape(s.kind, s.num, args...)
}

// variables are those that are known, with their numbers.
type variables struct {
	numbers map[string]int
	names   []string
	all     bool // every one is known, and gets its number where it is first met
}

// variablesOf numbers names, and tells whether each is a variable's and stands once.
func variablesOf(names []string) (*variables, bool) {
	v := &variables{numbers: map[string]int{}}
	for _, name := range names {
		if _, twice := v.numbers[name]; twice || !isTypeName(api.TyVar, name) {
			return nil, false
		}
		v.add(name)
	}
	return v, true
}

func (v *variables) add(name string) int {
	number := len(v.names)
	v.numbers[name] = number
	v.names = append(v.names, name)
	return number
}

func (v *variables) number(name string) (int, bool) {
	number, ok := v.numbers[name]
	if !ok && v.all && isTypeName(api.TyVar, name) {
		return v.add(name), true
	}
	return number, ok
}
