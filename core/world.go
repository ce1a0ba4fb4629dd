package core

import (
	"slices"

	"sloth/api"
	"sloth/builtin"
	"sloth/types"
)

// world is what a program says: its data types, behind the built-in ones, and its definitions.
type world struct {
	datas   []data
	numbers map[string]int // of data types
	cons    map[string]con
	defs    map[string]general
	integer *shape
	truth   *shape // Bool
}

type data struct {
	name   string
	params *variables
}

// general is a type with parameters, which are its variables.
type general struct {
	params *variables
	is     *shape
}

// con is a constructor: as a function of its fields, and field by field.
type con struct {
	general
	data   int
	fields []*shape
}

// learn learns a program, or tells what is wrong with it.
func learn(p api.Program) (*world, api.Errno) {
	if code := wrongProgram(p); code != api.OK {
		return nil, code
	}
	w := &world{numbers: map[string]int{}, cons: map[string]con{}, defs: map[string]general{}, integer: newShape(api.TyInt, 0)}
	if code := w.learnDatas(append(builtin.Datas(), p.Datas...)); code != api.OK {
		return nil, code
	}
	w.truth = newShape(api.TyData, w.numbers["Bool"])
	if code := w.learnDefs(p.Defs); code != api.OK {
		return nil, code
	}
	return w, api.OK
}

// learnDatas takes the built-in data types as ahead of all others: so a name that is theirs is one that stands ahead.
func (w *world) learnDatas(l []api.Data) api.Errno {
	for i := range l {
		if code := w.meet(&l[i]); code != api.OK {
			return code
		}
	}
	for i := range l {
		for _, c := range l[i].Cons {
			if !w.learnFields(i, c) {
				return api.ErrCoreData
			}
		}
	}
	return api.OK
}

// meet looks at a data type, but not at its fields' types, which may speak of data types behind it.
func (w *world) meet(d *api.Data) api.Errno {
	if !areNames(d) {
		return api.ErrCoreName
	}
	params, ok := variablesOf(d.Params)
	_, twice := w.numbers[d.Name]
	if !ok || twice || len(d.Params) > api.MaxParams || len(d.Cons) == 0 || len(d.Cons) > api.MaxCons {
		return api.ErrCoreData
	}
	number := len(w.datas)
	w.numbers[d.Name] = number
	w.datas = append(w.datas, data{name: d.Name, params: params})
	for _, c := range d.Cons {
		if _, twice := w.cons[c.Name]; twice || len(c.Fields) > api.MaxFields {
			return api.ErrCoreData
		}
		w.cons[c.Name] = con{data: number}
	}
	return api.OK
}

// areNames tells whether all names may be that a data type gives.
func areNames(d *api.Data) bool {
	return isTypeName(api.TyData, d.Name) &&
		!slices.ContainsFunc(d.Params, func(name string) bool { return !isTypeName(api.TyVar, name) }) &&
		!slices.ContainsFunc(d.Cons, func(c api.Con) bool { return !isName(c.Name) })
}

// learnFields tells whether the types of a constructor's fields are right.
func (w *world) learnFields(number int, c api.Con) bool {
	params := w.datas[number].params
	k := con{data: number, general: general{params: params}}
	for i := range c.Fields {
		s := w.right(&c.Fields[i], params)
		if s == nil {
			return false
		}
		k.fields = append(k.fields, s)
	}
	args := make([]*shape, len(params.names))
	for i := range args {
		args[i] = newShape(api.TyVar, i)
	}
	k.is = newShape(api.TyData, number, args...)
	for _, s := range slices.Backward(k.fields) {
		k.is = newShape(api.TyFun, 0, s, k.is)
	}
	w.cons[c.Name] = k
	return true
}

func (w *world) learnDefs(l []api.Def) api.Errno {
	for i := range l {
		d := &l[i]
		params, ok := variablesOf(d.Params)
		if _, twice := w.defs[d.Name]; twice || !ok || !isName(d.Name) {
			return api.ErrCoreName
		}
		s := w.right(&d.Type, params)
		if s == nil {
			return api.ErrCoreType
		}
		w.defs[d.Name] = general{params: params, is: s}
	}
	for i := range l {
		if code := w.body(&l[i]); code != api.OK {
			return code
		}
	}
	return api.OK
}

// body looks at a definition's body.
func (w *world) body(d *api.Def) api.Errno {
	g := w.defs[d.Name]
	k := newLooker(w, g.params)
	s := k.expr(&d.Body)
	switch {
	case s == nil:
		return k.code
	case !same(s, g.is):
		return api.ErrCoreType
	}
	return api.OK
}

// right is the shape of a type; nil, if it is not right.
func (w *world) right(t *api.Type, known *variables) *shape {
	if isGreat(t) {
		return nil
	}
	return w.shape(t, known)
}

func (w *world) shape(t *api.Type, known *variables) *shape {
	num, args, ok := w.node(t, known)
	if !ok || len(t.Args) != args {
		return nil
	}
	l := make([]*shape, args)
	for i := range l {
		if l[i] = w.shape(&t.Args[i], known); l[i] == nil {
			return nil
		}
	}
	return newShape(t.Kind, num, l...)
}

// node tells what number a node's name has, how many Args there must be, and whether its Kind and Name may be.
func (w *world) node(t *api.Type, known *variables) (int, int, bool) {
	switch t.Kind {
	case api.TyInt:
		return 0, 0, t.Name == ""
	case api.TyVar:
		number, ok := known.number(t.Name)
		return number, 0, ok
	case api.TyFun:
		return 0, 2, t.Name == ""
	case api.TyData:
		if number, ok := w.numbers[t.Name]; ok {
			return number, len(w.datas[number].params.names), true
		}
	}
	return 0, 0, false
}

// isName tells whether a constructor, a definition or a local may have that name.
func isName(name string) bool {
	if name == "" || len(name) > api.MaxName {
		return false
	}
	for i := range len(name) {
		if !isNameSign(name[i]) {
			return false
		}
	}
	return true
}

func isNameSign(b byte) bool { return 32 <= b && b <= 126 }

// isTypeName tells whether a variable (TyVar) or a data type (TyData) may have that name: just then a type that is nothing else has a text.
func isTypeName(kind int, name string) bool {
	_, code := types.Print(api.Type{Kind: kind, Name: name})
	return code == api.OK
}
