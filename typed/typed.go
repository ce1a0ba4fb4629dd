// Package typed: the types of constructors, definitions and operators of a right program, and how great types are.
package typed

import (
	"slices"

	"sloth/api"
	"sloth/builtin"
	"sloth/swap"
)

// General is a type with parameters: the place of each among them.
type General struct {
	Params map[string]int
	Is     api.Type
}

// At is a general type where types stand for its parameters. It shares parts with them.
func (g General) At(types []api.Type) api.Type { return g.put(types, g.Is) }

func (g General) put(types []api.Type, t api.Type) api.Type {
	return swap.Swap{Places: g.Params, Types: types}.Put(t)
}

// Con is a constructor: as a function of its fields, and field by field.
type Con struct {
	General
	Fields []api.Type
}

// Field is the type of a field where types stand for the parameters.
func (c Con) Field(number int, types []api.Type) api.Type { return c.put(types, c.Fields[number]) }

// Cons tells the constructors of data types, and the built-in ones, by their names.
func Cons(datas []api.Data) map[string]Con {
	cons := map[string]Con{}
	for _, d := range append(builtin.Datas(), datas...) {
		params := swap.Places(d.Params)
		made := api.Type{Kind: api.TyData, Name: d.Name}
		for _, name := range d.Params {
			made.Args = append(made.Args, api.Type{Kind: api.TyVar, Name: name})
		}
		for _, c := range d.Cons {
			cons[c.Name] = Con{General{params, Function(c.Fields, made)}, c.Fields}
		}
	}
	return cons
}

// Function is the type of functions of so many arguments.
func Function(from []api.Type, to api.Type) api.Type {
	for _, t := range slices.Backward(from) {
		to = api.Type{Kind: api.TyFun, Args: []api.Type{t, to}}
	}
	return to
}

// Op is the type of what an operator makes of numbers.
func Op(name string) api.Type {
	switch name {
	case "+", "-", "*", "/", "%":
		return api.Type{Kind: api.TyInt}
	}
	return api.Type{Kind: api.TyData, Name: "Bool"}
}

// Nodes counts the nodes of a type.
func Nodes(t api.Type) int {
	nodes := 1
	for _, a := range t.Args {
		nodes += Nodes(a)
	}
	return nodes
}
