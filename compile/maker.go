package compile

import (
	"sloth/api"
	"sloth/builtin"
)

// maker makes the globals of a program. Till all are known, globals and constructors are told by the numbers in which they are met.
type maker struct {
	fields    map[string]int // how many each constructor has
	shapes    []api.Shape
	cons      map[string]int // the numbers of shapes, by their names
	globals   []api.Global
	defs      map[string]int // the numbers of the definitions' globals
	functions map[string]int // of the constructors' as functions: these have no names yet
}

func newMaker(p api.Program) *maker {
	m := &maker{fields: map[string]int{}, cons: map[string]int{}, defs: map[string]int{}, functions: map[string]int{}}
	first := builtin.Datas()
	for _, d := range append(first, p.Datas...) {
		for _, c := range d.Cons {
			m.fields[c.Name] = len(c.Fields)
		}
	}
	for _, d := range first {
		for _, c := range d.Cons {
			m.shape(c.Name)
		}
	}
	return m
}

// make makes all globals; false, if there are too many, or one has too many arguments.
func (m *maker) make(defs []api.Def) bool {
	for i := range defs {
		m.defs[defs[i].Name] = m.add(api.Global{Name: defs[i].Name})
	}
	for i := range defs {
		if !newDefinition(m, &defs[i]).make() {
			return false
		}
	}
	return len(m.globals) <= api.MaxGlobals
}

// add puts a global behind the others, and tells its number.
func (m *maker) add(g api.Global) int {
	m.globals = append(m.globals, g)
	return len(m.globals) - 1
}

// shape tells the number of a constructor.
func (m *maker) shape(con string) int {
	number, isMet := m.cons[con]
	if !isMet {
		number = len(m.shapes)
		m.cons[con] = number
		m.shapes = append(m.shapes, api.Shape{Name: con, Fields: m.fields[con]})
	}
	return number
}

// function tells the number of the global that a constructor is as a function.
func (m *maker) function(con string) int {
	number, isMet := m.functions[con]
	if !isMet {
		s := &scheme{definition: &definition{maker: m}, depth: m.fields[con] + 1}
		s.pack(con)
		s.close()
		number = m.add(api.Global{Arity: m.fields[con], Code: s.code})
		m.functions[con] = number
	}
	return number
}
