package typing

import (
	"sloth/api"
	"sloth/types"
)

// Known is what is known of names that may be used at many types, an instance of their type each time.
type Known struct {
	Values map[string]api.Type
	Cons   map[string]api.Type
}

// given is the type of something that is built in, as package types writes it.
type given struct{ name, text string }

var givenCons = [...]given{
	{"False", "Bool"},
	{"True", "Bool"},
	{"Unit", "Unit"},
	{"Nil", "(List a)"},
	{"Cons", "(a -> ((List a) -> (List a)))"},
	{"Pair", "(a -> (b -> (Pair a b)))"},
	{"Triple", "(a -> (b -> (c -> (Triple a b c))))"},
}

const (
	arithmetic = "(Int -> (Int -> Int))"
	comparison = "(Int -> (Int -> Bool))"
)

var givenValues = [...]given{
	{"+", arithmetic}, {"-", arithmetic}, {"*", arithmetic}, {"/", arithmetic}, {"%", arithmetic},
	{"==", comparison}, {"/=", comparison}, {"<", comparison}, {"<=", comparison}, {">", comparison}, {">=", comparison},
	{"seq", "(a -> (b -> b))"},
	{"stop", "a"},
}

// BuiltIn knows what is built in.
func BuiltIn() Known {
	k := Known{Values: map[string]api.Type{}, Cons: map[string]api.Type{}}
	for _, g := range givenValues {
		k.Values[g.name], _ = types.Read(g.text)
	}
	for _, g := range givenCons {
		k.Cons[g.name], _ = types.Read(g.text)
	}
	return k
}

// Learn works the types of a module's constructors out, or tells which one's is too great.
func (k Known) Learn(m api.Module) *api.Fault {
	for _, d := range m.Datas {
		made := dataType(d)
		for _, c := range d.Cons {
			t, code := types.Canon(function(c.Fields, made))
			if code != api.OK {
				return &api.Fault{Code: api.ErrBig, Text: m.Text, At: -1, Name: c.Name}
			}
			k.Cons[c.Name] = t
		}
	}
	return nil
}

// dataType is the type that a data type's constructors make.
func dataType(d api.Data) api.Type {
	t := api.Type{Kind: api.TyData, Name: d.Name}
	for _, p := range d.Params {
		t.Args = append(t.Args, api.Type{Kind: api.TyVar, Name: p})
	}
	return t
}

// function is the type of a function of so many things to one; of none it is that one's.
func function(from []api.Type, to api.Type) api.Type {
	for i := len(from) - 1; i >= 0; i-- {
		to = api.Type{Kind: api.TyFun, Args: []api.Type{from[i], to}}
	}
	return to
}
