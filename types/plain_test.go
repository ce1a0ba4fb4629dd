package types_test

import (
	"slices"

	"sloth/api"
)

// The second forms of the calls go by the chapter's words, one by one, and share nothing.

func plainWrong(t api.Type) api.Errno {
	if !plainMayBe(t) {
		return api.ErrTypesForm
	}
	if plainNodes(t) > api.MaxType {
		return api.ErrBig
	}
	return api.OK
}

func plainMayBe(t api.Type) bool {
	if slices.ContainsFunc(t.Args, func(a api.Type) bool { return !plainMayBe(a) }) {
		return false
	}
	switch t.Kind {
	case api.TyInt:
		return t.Name == "" && len(t.Args) == 0
	case api.TyVar:
		return smallName.MatchString(t.Name) && len(t.Name) <= api.MaxName && len(t.Args) == 0
	case api.TyFun:
		return t.Name == "" && len(t.Args) == 2
	case api.TyData:
		return capitalName.MatchString(t.Name) && t.Name != "Int" && len(t.Name) <= api.MaxName && len(t.Args) <= api.MaxParams
	}
	return false
}

func plainNodes(t api.Type) int {
	n := 1
	for _, a := range t.Args {
		n += plainNodes(a)
	}
	return n
}

// plainPut replaces variables, once.
func plainPut(known map[string]api.Type, t api.Type) api.Type {
	if x, ok := known[t.Name]; ok && t.Kind == api.TyVar {
		return x
	}
	var args []api.Type
	for _, a := range t.Args {
		args = append(args, plainPut(known, a))
	}
	return api.Type{Kind: t.Kind, Name: t.Name, Args: args}
}

func plainApply(l []api.Bound, t api.Type) (api.Type, api.Errno) {
	known := map[string]api.Type{}
	for _, b := range l {
		if _, ok := known[b.Name]; ok || !plainMayBe(variable(b.Name)) {
			return api.Type{}, api.ErrTypesForm
		}
		if code := plainWrong(b.Type); code != api.OK {
			return api.Type{}, code
		}
		known[b.Name] = b.Type
	}
	if code := plainWrong(t); code != api.OK {
		return api.Type{}, code
	}
	if out := plainPut(known, t); plainNodes(out) <= api.MaxType {
		return out, api.OK
	}
	return api.Type{}, api.ErrBig
}

// plainVariables: each once, in the order in which they first stand.
func plainVariables(l ...api.Type) []string {
	var out []string
	for _, t := range l {
		if t.Kind == api.TyVar && !slices.Contains(out, t.Name) {
			out = append(out, t.Name)
		}
		for _, x := range plainVariables(t.Args...) {
			if !slices.Contains(out, x) {
				out = append(out, x)
			}
		}
	}
	return out
}

// plainKnown is what is known of variables so far: what is put there may have a variable of which something is known too.
type plainKnown map[string]api.Type

func (k plainKnown) head(t api.Type) api.Type {
	for t.Kind == api.TyVar {
		x, ok := k[t.Name]
		if !ok {
			break
		}
		t = x
	}
	return t
}

func (k plainKnown) stands(name string, t api.Type) bool {
	t = k.head(t)
	return t.Kind == api.TyVar && t.Name == name || slices.ContainsFunc(t.Args, func(a api.Type) bool { return k.stands(name, a) })
}

func (k plainKnown) agree(a, b api.Type) api.Errno {
	a, b = k.head(a), k.head(b)
	if a.Kind != api.TyVar && b.Kind == api.TyVar {
		a, b = b, a
	}
	if a.Kind == api.TyVar {
		switch {
		case b.Kind == api.TyVar && a.Name == b.Name:
			return api.OK
		case k.stands(a.Name, b):
			return api.ErrTypesOccurs
		}
		k[a.Name] = b
		return api.OK
	}
	if a.Kind != b.Kind || a.Name != b.Name || len(a.Args) != len(b.Args) {
		return api.ErrTypesMismatch
	}
	for i := range a.Args {
		if code := k.agree(a.Args[i], b.Args[i]); code != api.OK {
			return code
		}
	}
	return api.OK
}

// whole works a type out, as long as it has at most so many nodes.
func (k plainKnown) whole(t api.Type, left *int) api.Type {
	t = k.head(t)
	if *left--; *left < 0 {
		return api.Type{}
	}
	var args []api.Type
	for _, a := range t.Args {
		args = append(args, k.whole(a, left))
	}
	return api.Type{Kind: t.Kind, Name: t.Name, Args: args}
}

func plainUnify(l []api.Pair) ([]api.Bound, int, api.Errno) {
	var all []api.Type
	for i, p := range l {
		for _, t := range []api.Type{p.A, p.B} {
			if code := plainWrong(t); code != api.OK {
				return nil, i, code
			}
		}
		all = append(all, p.A, p.B)
	}
	known := plainKnown{}
	for i, p := range l {
		if code := known.agree(p.A, p.B); code != api.OK {
			return nil, i, code
		}
	}
	names := plainVariables(all...)
	slices.Sort(names)
	worked := map[string]api.Type{}
	for _, x := range names {
		left := api.MaxType
		if worked[x] = known.whole(variable(x), &left); left < 0 {
			return nil, len(l), api.ErrBig
		}
	}
	least := map[string]api.Type{} // by the variable that stayed: names come in their order
	for _, x := range names {
		if w := worked[x]; w.Kind == api.TyVar && least[w.Name].Name == "" {
			least[w.Name] = variable(x)
		}
	}
	var out []api.Bound
	for _, x := range names {
		if w := plainPut(least, worked[x]); !same(w, variable(x)) {
			out = append(out, api.Bound{Name: x, Type: w})
		}
	}
	return out, 0, api.OK
}

// plainInstance: what makes special of general can only be what stands in special at the variables' places.
func plainInstance(general, special api.Type) ([]api.Bound, bool, api.Errno) {
	if code := plainWrong(general); code != api.OK {
		return nil, false, code
	}
	if code := plainWrong(special); code != api.OK {
		return nil, false, code
	}
	found := map[string]api.Type{}
	plainPlaces(general, special, found)
	if !same(plainPut(found, general), special) {
		return nil, false, api.OK
	}
	var l []api.Bound
	for _, x := range plainVariables(general) {
		l = append(l, api.Bound{Name: x, Type: found[x]})
	}
	slices.SortFunc(l, func(a, b api.Bound) int {
		if a.Name < b.Name {
			return -1
		}
		return 1
	})
	return l, true, api.OK
}

func plainPlaces(general, special api.Type, found map[string]api.Type) {
	if general.Kind == api.TyVar {
		found[general.Name] = special
	}
	for i := range min(len(general.Args), len(special.Args)) {
		plainPlaces(general.Args[i], special.Args[i], found)
	}
}

func plainCanon(t api.Type) (api.Type, api.Errno) {
	if code := plainWrong(t); code != api.OK {
		return api.Type{}, code
	}
	var names []string
	for _, round := range []string{"", "1", "2", "3", "4", "5", "6", "7", "8", "9", "10", "11", "12", "13", "14", "15", "16", "17", "18", "19"} {
		for letter := 'a'; letter <= 'z'; letter++ {
			names = append(names, string(letter)+round)
		}
	}
	put := map[string]api.Type{}
	for i, x := range plainVariables(t) {
		put[x] = variable(names[i])
	}
	return plainPut(put, t), api.OK
}

func plainRead(text string) (api.Type, api.Errno) {
	t, ok := plainType(text)
	switch {
	case len(text) > api.MaxText:
		return api.Type{}, api.ErrLong
	case !ok:
		return api.Type{}, api.ErrTypesText
	case plainNodes(t) > api.MaxType:
		return api.Type{}, api.ErrBig
	}
	return t, api.OK
}
