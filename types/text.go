package types

import (
	"strings"

	"sloth/api"
)

// write writes the text of a type that may be.
func write(b *strings.Builder, t api.Type) {
	is := formOf(t)
	switch {
	case is == number:
		b.WriteString(intName)
	case is == function:
		writeRow(b, "", t.Args, " -> ")
	case len(t.Args) > 0:
		writeRow(b, t.Name+" ", t.Args, " ")
	default:
		b.WriteString(t.Name)
	}
}

// writeRow writes types in brackets, with something between each two.
func writeRow(b *strings.Builder, head string, l []api.Type, between string) {
	b.WriteString("(" + head)
	for i, t := range l {
		if i > 0 {
			b.WriteString(between)
		}
		write(b, t)
	}
	b.WriteString(")")
}

// reader reads the shape of a text; whether the type may be is not its to ask. Where no type is, it reads the zero one, which may not be.
type reader struct {
	text string // what is left
}

func (r *reader) skip(sign string) bool {
	rest, ok := strings.CutPrefix(r.text, sign)
	r.text = rest
	return ok
}

// part reads the type that begins here.
func (r *reader) part() api.Type {
	if !r.skip("(") {
		return r.leaf()
	}
	t := r.part()
	switch {
	case r.skip(" -> "):
		t = api.Type{Kind: api.TyFun, Args: []api.Type{t, r.part()}}
	case t.Kind == api.TyData && len(t.Args) == 0:
		t.Args = r.args()
	default:
		return api.Type{}
	}
	if len(t.Args) == 0 || !r.skip(")") {
		return api.Type{}
	}
	return t
}

func (r *reader) args() []api.Type {
	var l []api.Type
	for r.skip(" ") {
		l = append(l, r.part())
	}
	return l
}

// leaf reads a word. It is new memory, so that no type keeps the whole text.
func (r *reader) leaf() api.Type {
	end := strings.IndexAny(r.text, " ()")
	if end < 0 {
		end = len(r.text)
	}
	word := strings.Clone(r.text[:end])
	r.text = r.text[end:]
	switch {
	case word == intName:
		return api.Type{Kind: api.TyInt}
	case isVariable(word):
		return api.Type{Kind: api.TyVar, Name: word}
	}
	return api.Type{Kind: api.TyData, Name: word}
}
