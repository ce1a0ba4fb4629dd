package mono

import (
	"sloth/api"
	"sloth/swap"
	"sloth/types"
)

// instance is a definition, with types for its parameters, and the texts of these.
type instance struct {
	def *api.Def
	swap.Swap
	texts []string
}

// newInstance makes an instance; ErrBig, if one of its types has too many nodes.
func newInstance(d *api.Def, l []api.Type) (instance, api.Errno) {
	in := instance{def: d, Swap: swap.Swap{Places: swap.Places(d.Params), Types: l}}
	for _, t := range l {
		text, code := types.Print(t)
		if code != api.OK {
			return instance{}, api.ErrBig
		}
		in.texts = append(in.texts, text)
	}
	return in, api.OK
}

// name writes the name of the instance that this one needs of a definition, with types that speak of its own parameters. What is too long already is not written to its end.
func (in *instance) name(def string, l []api.Type) []byte {
	text := []byte(def)
	if len(l) == 0 {
		return text
	}
	sign := byte('{')
	for i := range l {
		text = in.write(append(text, sign), &l[i])
		sign = ','
	}
	return append(text, '}')
}

// write writes a type as types.Print would, if its parameters had given place. That would go through their types wherever they stand: great ones, in very many places.
func (in *instance) write(text []byte, t *api.Type) []byte {
	switch {
	case len(text) > api.MaxName:
		return text
	case t.Kind == api.TyVar:
		return append(text, in.texts[in.Places[t.Name]]...)
	case t.Kind == api.TyInt:
		return append(text, "Int"...)
	case t.Kind == api.TyFun:
		text = in.write(append(text, '('), &t.Args[0])
		text = in.write(append(text, " -> "...), &t.Args[1])
		return append(text, ')')
	case len(t.Args) == 0:
		return append(text, t.Name...)
	}
	text = append(append(text, '('), t.Name...)
	for i := range t.Args {
		text = in.write(append(text, ' '), &t.Args[i])
	}
	return append(text, ')')
}
