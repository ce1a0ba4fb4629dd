package scope_test

import (
	"fmt"
	"math/rand"
	"reflect"
	"slices"
	"strings"

	"sloth/api"
	"sloth/syntax"
)

// maker makes sources at random: most of their names mean something; one in risk names is any.
type maker struct {
	*rand.Rand
	risk  int
	plain *plain // the modules made so far, to ask what names mean
}

func pick[T any](r *rand.Rand, l ...T) T { return l[r.Intn(len(l))] }

// some makes a number of things, up to most.
func some[T any](k *maker, least, most int, make func() T) []T {
	var l []T
	for range least + k.Intn(most-least+1) {
		l = append(l, make())
	}
	return l
}

func (k *maker) dares() bool { return k.Intn(k.risk) == 0 }

// Names of few words, so that they meet.
var (
	uppers = strings.Fields("T U A B M Cons")
	lowers = strings.Fields("f g x y a")
	ops    = strings.Fields("++ . +.+")
	places = strings.Fields("M N T A P")

	typeNames  = slices.Concat(uppers, strings.Fields("Int Bool [] () (,) (,,)"))
	conNames   = slices.Concat(uppers, strings.Fields("True False [] : ()"))
	valueNames = slices.Concat(lowers, ops, strings.Fields("seq stop + =="))
)

// subset picks some of the names, each once, in any order.
func (k *maker) subset(names []string, most int) []string {
	l := slices.Clone(names)
	k.Shuffle(len(l), func(i, j int) { l[i], l[j] = l[j], l[i] })
	return l[:k.Intn(min(most, len(l))+1)]
}

// known picks a name that means one thing where it stands, or any.
func (k *maker) known(kind byte) string {
	names := typeNames
	switch kind {
	case 'c':
		names = conNames
	case 'v':
		names = valueNames
	}
	for try := range 20 {
		name := pick(k.Rand, names...)
		if word := name[0] >= 'A' && name[0] <= 'Z' || name[0] >= 'a' && name[0] <= 'z'; word && k.Intn(3) == 0 {
			name = pick(k.Rand, places...) + "." + name
		}
		meanings := len(k.plain.all(kind, name))
		if meanings == 1 || meanings > 1 && k.risk < 100 || try == 19 || k.dares() && mayStand(name) {
			return name
		}
	}
	panic("no name")
}

// mayStand: names that are written with any number of arguments.
func mayStand(name string) bool { return strings.ContainsAny(name[:1], "TUABMCNPfgxya+.") }

func (k *maker) size(kind byte, name string) int {
	if l := k.plain.all(kind, name); len(l) > 0 && !(k.dares() && mayStand(name)) {
		return l[0].size
	}
	if !mayStand(name) {
		return builtMeaning(kind, name)[0].size
	}
	return k.Intn(3)
}

// world makes modules, each of which imports some of those ahead of it, and gives their texts in any order.
func (k *maker) world() []api.Module {
	k.plain = &plain{}
	names := slices.Clone(places)
	k.Shuffle(len(names), func(i, j int) { names[i], names[j] = names[j], names[i] })
	for _, name := range names[:1+k.Intn(len(names))] {
		m := k.module(name)
		k.plain.modules = append(k.plain.modules, m)
	}
	l := slices.Clone(k.plain.modules)
	k.Shuffle(len(l), func(i, j int) { l[i], l[j] = l[j], l[i] })
	return l
}

func (k *maker) module(name string) api.Module {
	m := api.Module{Name: name}
	for _, other := range k.plain.modules {
		if k.Intn(3) > 0 {
			m.Imports = append(m.Imports, k.imported(other))
		}
	}
	k.Shuffle(len(m.Imports), func(i, j int) { m.Imports[i], m.Imports[j] = m.Imports[j], m.Imports[i] })
	cons := k.subset(append(slices.Clone(uppers), "Int"), 6)
	for _, d := range k.subset(uppers, 3) {
		data := api.Data{Name: d, Params: k.subset(lowers, 2)}
		for len(cons) > 0 && (len(data.Cons) == 0 || k.Intn(2) == 0) {
			data.Cons = append(data.Cons, api.Con{Name: cons[0]})
			cons = cons[1:]
		}
		if len(data.Cons) > 0 {
			m.Datas = append(m.Datas, data)
		}
	}
	for _, d := range k.subset(slices.Concat(lowers, ops), 4) {
		arity := k.Intn(3)
		for range 1 + k.Intn(2) {
			m.Clauses = append(m.Clauses, api.Clause{Name: d, Pats: make([]api.Pat, arity)})
		}
		if k.Intn(3) == 0 {
			m.Fixes = append(m.Fixes, api.Fixity{Op: d, Assoc: k.Intn(3), Level: k.Intn(10)})
		}
		if k.Intn(3) == 0 {
			m.Sigs = append(m.Sigs, api.Sig{Name: d})
		}
	}
	k.fill(m)
	return m
}

func (k *maker) imported(m api.Module) api.Import {
	i := api.Import{Module: m.Name, Some: k.Intn(2) == 0}
	if !i.Some {
		return i
	}
	for _, d := range m.Datas {
		i.Names = append(i.Names, d.Name)
		for _, c := range d.Cons {
			i.Names = append(i.Names, c.Name)
		}
	}
	for _, c := range m.Clauses {
		i.Names = append(i.Names, c.Name)
	}
	i.Names = k.subset(i.Names, len(i.Names))
	return i
}

// fill makes the types and bodies of a module whose names are known.
func (k *maker) fill(m api.Module) {
	k.plain.in = m
	for i, d := range m.Datas {
		for j := range d.Cons {
			m.Datas[i].Cons[j].Fields = some(k, 0, 2, func() api.Type { return k.typ(2, d.Params) })
		}
	}
	k.plain.in = m
	for i := range m.Sigs {
		m.Sigs[i].Type = k.typ(3, lowers)
	}
	for i, c := range m.Clauses {
		var names []string
		for j := range c.Pats {
			m.Clauses[i].Pats[j] = k.pat(2, &names)
		}
		m.Clauses[i].Body = k.term(k.Intn(4), names)
	}
}

func (k *maker) typ(depth int, variables []string) api.Type {
	if len(variables) > 0 && (depth == 0 || k.Intn(4) == 0) || k.dares() {
		return api.Type{Kind: api.TyVar, Name: pick(k.Rand, append(slices.Clone(lowers), variables...)[k.past(len(lowers), len(variables)):]...)}
	}
	if depth == 0 {
		return api.Type{Kind: api.TyData, Name: "Int"}
	}
	if k.Intn(4) == 0 {
		return api.Type{Kind: api.TyFun, Args: []api.Type{k.typ(depth-1, variables), k.typ(depth-1, variables)}}
	}
	t := api.Type{Kind: api.TyData, Name: k.known('t')}
	for range k.size('t', t.Name) {
		t.Args = append(t.Args, k.typ(depth-1, variables))
	}
	return t
}

// past tells how many names at the beginning of a list are left out: those that may not stand there, but where it is dared.
func (k *maker) past(loose, firm int) int {
	if k.dares() || firm == 0 {
		return 0
	}
	return loose
}

func (k *maker) pat(depth int, names *[]string) api.Pat {
	switch c := k.Intn(6); {
	case c == 0:
		return api.Pat{Kind: api.PatWild}
	case c == 1:
		return api.Pat{Kind: api.PatInt, Num: k.Intn(3)}
	case depth == 0 || c < 4:
		name := pick(k.Rand, append(slices.Clone(lowers), "seq")...)
		if !k.dares() && (name == "seq" || slices.Contains(*names, name)) {
			return api.Pat{Kind: api.PatWild}
		}
		*names = append(*names, name)
		return api.Pat{Kind: api.PatVar, Name: name}
	}
	p := api.Pat{Kind: api.PatCon, Name: k.known('c')}
	for range k.size('c', p.Name) {
		p.Args = append(p.Args, k.pat(depth-1, names))
	}
	return p
}

func (k *maker) value(locals []string) string {
	if len(locals) > 0 && k.Intn(2) == 0 {
		return pick(k.Rand, locals...)
	}
	return k.known('v')
}

func (k *maker) leaf(locals []string) api.Term {
	switch k.Intn(5) {
	case 0:
		return api.Term{Kind: api.TermInt, Num: k.Intn(3)}
	case 1:
		return api.Term{Kind: api.TermCon, Name: k.known('c')}
	}
	return api.Term{Kind: api.TermVar, Name: k.value(locals)}
}

func (k *maker) operator(locals []string) api.Term {
	for {
		if t := k.leaf(locals); t.Name != "" && t.Name != "[]" && t.Name != "()" {
			return t
		}
	}
}

func (k *maker) term(depth int, locals []string) api.Term {
	if depth == 0 {
		return k.leaf(locals)
	}
	inner := func() api.Term { return k.term(depth-1, locals) }
	row := []api.Term{k.operator(locals), inner(), k.operator(locals), inner()}
	switch k.Intn(9) {
	case 0, 1:
		return api.Term{Kind: api.TermApp, Args: []api.Term{inner(), inner()}}
	case 2:
		return api.Term{Kind: api.TermFlat, Args: row[1:]}
	case 3:
		return api.Term{Kind: api.TermLeft, Args: []api.Term{row[1], row[2]}}
	case 4:
		return api.Term{Kind: api.TermRight, Args: row}
	case 5:
		c := k.clause("", 1, depth, locals)
		return api.Term{Kind: api.TermLam, Pats: c.Pats, Args: []api.Term{c.Body}}
	case 6:
		return k.let(depth, locals)
	case 7:
		t := api.Term{Kind: api.TermCase, Args: []api.Term{inner()}}
		t.Alts = some(k, 1, 3, func() api.Branch {
			c := k.clause("", 1, depth, locals)
			return api.Branch{Pat: c.Pats[0], Body: c.Body}
		})
		return t
	}
	return api.Term{Kind: api.TermIf, Args: []api.Term{inner(), inner(), inner()}}
}

func (k *maker) clause(name string, pats, depth int, locals []string) api.Clause {
	var names []string
	c := api.Clause{Name: name}
	for range pats {
		c.Pats = append(c.Pats, k.pat(2, &names))
	}
	c.Body = k.term(depth-1, slices.Concat(locals, names))
	return c
}

func (k *maker) let(depth int, locals []string) api.Term {
	names := k.subset(slices.Concat(lowers, ops), 2)
	if len(names) == 0 {
		names = []string{"x"}
	}
	locals = slices.Concat(locals, names)
	t := api.Term{Kind: api.TermLet, Args: []api.Term{k.term(depth-1, locals)}}
	for _, name := range names {
		pats := k.Intn(3)
		for range 1 + k.Intn(2) {
			t.Clauses = append(t.Clauses, k.clause(name, pats, depth, locals))
		}
	}
	return t
}

// spoil changes one thing somewhere in a module, so that it may be wrong.
func (k *maker) spoil(m *api.Module) {
	var all []reflect.Value
	var walk func(reflect.Value)
	walk = func(v reflect.Value) {
		switch v.Kind() {
		case reflect.Struct:
			for i := range v.NumField() {
				walk(v.Field(i))
			}
		case reflect.Slice:
			all = append(all, v)
			for i := range v.Len() {
				walk(v.Index(i))
			}
		case reflect.String:
			all = append(all, v)
		}
	}
	v := reflect.ValueOf(m).Elem()
	if k.Intn(3) == 0 { // of the whole, else of one kind of its parts, so that small kinds have their turn
		walk(v)
	} else {
		walk(v.Field(2 + k.Intn(v.NumField()-2)))
	}
	if len(all) == 0 {
		return
	}
	p := all[k.Intn(len(all))]
	if p.Kind() == reflect.String {
		p.SetString(k.otherName(p.String()))
		return
	}
	k.otherList(p)
}

// otherName tells another name of the same sort.
func (k *maker) otherName(name string) string {
	switch {
	case name == "":
		return name
	case name[0] >= 'A' && name[0] <= 'Z':
		if k.Intn(3) == 0 {
			return long(name[:1], pick(k.Rand, api.MaxName-2, api.MaxName-1, api.MaxName))
		}
		return pick(k.Rand, slices.Concat(uppers, places, strings.Fields("Int Bool True False"))...)
	case name[0] >= 'a' && name[0] <= 'z':
		if k.Intn(3) == 0 {
			return long(name[:1], pick(k.Rand, api.MaxName-2, api.MaxName-1, api.MaxName, api.MaxName+1))
		}
		return pick(k.Rand, slices.Concat(lowers, strings.Fields("seq stop"))...)
	}
	return pick(k.Rand, slices.Concat(ops, strings.Fields("+ == :"))...)
}

// otherList takes something out of a list, puts something twice into it, or makes it as long as may be, or longer.
func (k *maker) otherList(p reflect.Value) {
	n := p.Len()
	switch c := k.Intn(4); {
	case n == 0:
		if l, ok := p.Addr().Interface().(*[]api.Import); ok {
			*l = append(*l, api.Import{Module: pick(k.Rand, places...)})
		}
	case c == 0:
		i := k.Intn(n)
		p.Set(reflect.AppendSlice(slicesUpTo(p, i), p.Slice(i+1, n)))
	case c == 1 || c == 2:
		p.Set(reflect.Append(slicesUpTo(p, n), p.Index(k.Intn(n))))
	default:
		k.longList(p)
	}
}

// slicesUpTo copies the beginning of a list.
func slicesUpTo(p reflect.Value, n int) reflect.Value {
	return reflect.AppendSlice(reflect.MakeSlice(p.Type(), 0, n), p.Slice(0, n))
}

func (k *maker) longList(p reflect.Value) {
	past := k.Intn(2)
	switch l := p.Addr().Interface().(type) {
	case *[]api.Con:
		for i := len(*l); i < api.MaxCons+past; i++ {
			*l = append(*l, api.Con{Name: fmt.Sprint("C", i)})
		}
	case *[]api.Type:
		for len(*l) < api.MaxFields+past {
			*l = append(*l, (*l)[0])
		}
	case *[]string:
		for i := len(*l); i < api.MaxParams+past; i++ {
			*l = append(*l, fmt.Sprint("p", i))
		}
	case *[]api.Pat:
		for len(*l) < api.MaxColumns+past {
			*l = append(*l, api.Pat{Kind: api.PatWild})
		}
	case *[]api.Clause:
		c := (*l)[len(*l)-1]
		for range api.MaxRows - 1 + k.Intn(3) {
			*l = append(*l, c)
		}
	case *[]api.Branch:
		for len(*l) < api.MaxRows+past {
			*l = append(*l, (*l)[0])
		}
	}
}

// written gives modules as texts: their declarations of different kinds in any order, with remarks between; nil, if a module may not be.
func (k *maker) written(l []api.Module) []string {
	var out []string
	for _, m := range l {
		text, code := syntax.Print(m)
		if code != api.OK {
			return nil
		}
		lines := strings.SplitAfter(text, "\n")
		head := 1 + len(m.Imports)
		var kinds [][]string
		rest := lines[head:]
		for _, n := range []int{len(m.Datas), len(m.Fixes), len(m.Sigs), len(m.Clauses)} {
			kinds = append(kinds, rest[:n])
			rest = rest[n:]
		}
		text = strings.Join(lines[:head], "")
		for len(kinds) > 0 {
			i := k.Intn(len(kinds))
			if len(kinds[i]) == 0 {
				kinds = slices.Delete(kinds, i, i+1)
				continue
			}
			text += pick(k.Rand, "", "", " ", "{- x = y; -}", "-- x = y;\n") + kinds[i][0]
			kinds[i] = kinds[i][1:]
		}
		if len(text) > api.MaxText {
			return nil
		}
		out = append(out, text)
	}
	return out
}
