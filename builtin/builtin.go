// Package builtin: the data types that every program has (DOC.md, 'What is built in').
package builtin

import "sloth/api"

// Datas tells them, in new memory.
func Datas() []api.Data {
	a, b, c := variable("a"), variable("b"), variable("c")
	list := api.Type{Kind: api.TyData, Name: "List", Args: []api.Type{a}}
	return []api.Data{
		{Name: "Bool", Cons: []api.Con{{Name: "False"}, {Name: "True"}}},
		{Name: "Unit", Cons: []api.Con{{Name: "Unit"}}},
		{Name: "List", Params: []string{"a"}, Cons: []api.Con{{Name: "Nil"}, {Name: "Cons", Fields: []api.Type{a, list}}}},
		{Name: "Pair", Params: []string{"a", "b"}, Cons: []api.Con{{Name: "Pair", Fields: []api.Type{a, b}}}},
		{Name: "Triple", Params: []string{"a", "b", "c"}, Cons: []api.Con{{Name: "Triple", Fields: []api.Type{a, b, c}}}},
	}
}

func variable(name string) api.Type { return api.Type{Kind: api.TyVar, Name: name} }
