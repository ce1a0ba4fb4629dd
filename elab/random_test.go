package elab_test

import (
	"fmt"
	"math/rand"
	"slices"
	"strings"
	"testing"

	"sloth/api"
	"sloth/types"
)

// maker writes sources at random, each expression for a type that is wanted there. Their definitions' types have the variables a and b.
type maker struct {
	*rand.Rand
	style int // which definitions may be used, and how
	sigs  int // one of so many definitions has a signature; 0: none
	rows  int // clauses and alternatives, at most
	cons  []con
	defs  []def
	here  int // the module's first definition
	now   int // the definition that is being written
	names int // of locals, so far
}

const (
	free    = iota // all, at whatever type: so types may not agree
	inOrder        // those ahead at whatever type, itself as it is
	inRings        // those of modules ahead at whatever type, those of the module as they are
)

// con is a constructor that may be used.
type con struct {
	name   string
	fields []api.Type
	of     api.Type
}

// def is a definition with the type that it is written for.
type def struct {
	name, own string // as others write it, and as it is given
	is        api.Type
}

type local struct {
	name string
	is   api.Type
}

func pick[T any](r *rand.Rand, l ...T) T { return l[r.Intn(len(l))] }

// typ reads a type as package types writes it.
func typ(text string) api.Type {
	t, code := types.Read(text)
	if code != api.OK {
		panic(text)
	}
	return t
}

func fun(a, b api.Type) api.Type { return api.Type{Kind: api.TyFun, Args: []api.Type{a, b}} }

func put(b []api.Bound, t api.Type) api.Type {
	made, code := types.Apply(b, t)
	if code != api.OK {
		panic(fmt.Sprint(code, b, t))
	}
	return made
}

func sameType(a, b api.Type) bool {
	return a.Kind == b.Kind && a.Name == b.Name && slices.EqualFunc(a.Args, b.Args, sameType)
}

// special tells what makes a special type of a general one.
func special(general, t api.Type) ([]api.Bound, bool) {
	b, ok, _ := types.Instance(general, t)
	return b, ok
}

// written writes a type as a source does; modules' types with their modules.
func written(t api.Type) string {
	var args []string
	for _, a := range t.Args {
		args = append(args, written(a))
	}
	switch {
	case t.Kind == api.TyInt:
		return "Int"
	case t.Kind == api.TyFun:
		return "(" + strings.Join(args, " -> ") + ")"
	case t.Name == "List":
		return "[" + args[0] + "]"
	case t.Name == "Unit" || t.Name == "Pair" || t.Name == "Triple":
		return "(" + strings.Join(args, ", ") + ")"
	case len(args) == 0:
		return t.Name
	}
	return "(" + t.Name + " " + strings.Join(args, " ") + ")"
}

// texts writes one to three modules, each of which imports those ahead of it.
func (k *maker) texts() []string {
	k.learn("True", "Bool")
	k.learn("False", "Bool")
	k.learn("()", "Unit")
	k.learn("[]", "(List a)")
	k.learn(":", "(List a)", "a", "(List a)")
	k.learn("(,)", "(Pair a b)", "a", "b")
	k.learn("(,,)", "(Triple a b c)", "a", "b", "c")
	var l []string
	for m := range 1 + k.Intn(3) {
		name := string(rune('A' + m))
		text := "module " + name + ";\n"
		for i := range m {
			text += "import " + string(rune('A'+i)) + ";\n"
		}
		l = append(l, text+k.datas(name)+k.module(name))
	}
	return l
}

func (k *maker) learn(name, of string, fields ...string) {
	c := con{name: name, of: typ(of)}
	for _, f := range fields {
		c.fields = append(c.fields, typ(f))
	}
	k.cons = append(k.cons, c)
}

// datas writes a module's data types.
func (k *maker) datas(m string) string {
	if m == "B" {
		const tree = "(B.T a b)"
		k.learn("B.L", tree)
		k.learn("B.N", tree, tree, "a", "(B.T b a)")
		k.learn("B.F", tree, "(a -> b)", "Int")
		return "data T a b = L | N (T a b) a (T b a) | F (a -> b) Int;\n"
	}
	k.learn(m+".E", m+".E")
	k.learn(m+".I", m+".E", "Int", m+".E")
	k.learn(m+".W", "("+m+".W a)", "(List a)")
	return "data E = E | I Int E; data W a = W [a];\n"
}

// module writes a module's definitions, whose types are known ahead of their clauses.
func (k *maker) module(m string) string {
	k.here = len(k.defs)
	for i := range 1 + k.Intn(4) {
		own := fmt.Sprint("f", i)
		d := def{name: m + "." + own, own: own, is: k.typ(2 + k.Intn(2))}
		if i > 0 && k.Intn(2) == 0 { // more of them fit where one is wanted
			d.is = k.defs[k.here].is
		}
		if k.Intn(4) == 0 { // an operator has no module's name ahead of it
			d.own = "(" + strings.Repeat(string("&!?"[m[0]-'A']), i+1) + ")"
			d.name = d.own
		}
		k.defs = append(k.defs, d)
	}
	s := ""
	for k.now = k.here; k.now < len(k.defs); k.now++ {
		d := k.defs[k.now]
		s += k.clauses(d.own, d.is, nil, 4)
		if k.sigs > 0 && k.Intn(k.sigs) == 0 {
			s += d.own + " :: " + written(d.is) + ";\n"
		}
	}
	return s
}

// typ makes a type of what is known.
func (k *maker) typ(depth int) api.Type {
	if depth == 0 || k.Intn(5) == 0 {
		return pick(k.Rand, typ("Int"), typ("Int"), typ("Bool"), typ("Bool"), typ("a"), typ("b"), typ("Unit"))
	}
	if k.Intn(2) == 0 {
		return fun(k.typ(depth-1), k.typ(depth-1))
	}
	return k.dataTyp(depth)
}

// dataTyp makes a type that has constructors.
func (k *maker) dataTyp(depth int) api.Type {
	var b []api.Bound
	for _, name := range []string{"a", "b", "c"} {
		b = append(b, api.Bound{Name: name, Type: k.typ(depth - 1)})
	}
	return put(b, pick(k.Rand, k.cons...).of)
}

// clauses writes the clauses of a definition.
func (k *maker) clauses(name string, is api.Type, locals []local, depth int) string {
	arity := 0
	for t := is; t.Kind == api.TyFun && k.Intn(5) > 0; t = t.Args[1] {
		arity++
	}
	rows := 1 + k.Intn(k.rows)
	if arity == 0 && k.Intn(8) > 0 {
		rows = 1
	}
	s := ""
	for range rows {
		row, body := k.row(is, arity, locals, depth)
		s += name + " " + row + " = " + body + ";\n"
	}
	return s
}

// row writes so many patterns of a function, and the body behind them.
func (k *maker) row(is api.Type, arity int, locals []local, depth int) (row, body string) {
	var own []local
	for range arity {
		row += k.pat(is.Args[0], &own, 3) + " "
		is = is.Args[1]
	}
	return row, k.expr(is, inside(locals, own), k.Intn(depth+1))
}

// inside tells the locals of an inner place: the outer ones, but those that are hidden.
func inside(outer, inner []local) []local {
	l := slices.Clone(inner)
	for _, o := range outer {
		if !slices.ContainsFunc(inner, func(i local) bool { return i.name == o.name }) {
			l = append(l, o)
		}
	}
	return l
}

// local gives a name, often one that is known outside.
func (k *maker) local(is api.Type, own *[]local) string {
	k.names++
	name := pick(k.Rand, "x", "y", "z", "f0", "x1", "x2", fmt.Sprint("v", k.names))
	for slices.ContainsFunc(*own, func(l local) bool { return l.name == name }) {
		name += "'"
	}
	*own = append(*own, local{name, is})
	return name
}

// pat writes a pattern, as an argument.
func (k *maker) pat(is api.Type, own *[]local, depth int) string {
	switch c := k.Intn(12); {
	case c == 0:
		return "_"
	case c < 3 || depth == 0 && c < 8:
		return k.local(is, own)
	case is.Kind == api.TyInt:
		return pick(k.Rand, "0", "1", "'a'")
	}
	s := ""
	if depth > 0 {
		s = k.constructed(is, func(f api.Type) string { return k.pat(f, own, depth-1) })
	}
	if s == "" {
		return k.local(is, own)
	}
	return s
}

// constructed writes a constructor with all its fields, in a pattern or in an expression; nothing, if the type has none.
func (k *maker) constructed(is api.Type, field func(api.Type) string) string {
	for _, i := range k.Perm(len(k.cons)) {
		c := k.cons[i]
		b, ok := special(c.of, is)
		if !ok {
			continue
		}
		if c.name == ":" && k.Intn(4) == 0 {
			return "[" + field(is.Args[0]) + ", " + field(is.Args[0]) + "]"
		}
		var args []string
		for _, f := range c.fields {
			args = append(args, field(put(b, f)))
		}
		switch {
		case c.name == ":":
			return "(" + args[0] + " : " + args[1] + ")"
		case c.name[:2] == "(,":
			return "(" + strings.Join(args, ", ") + ")"
		}
		return "(" + strings.Join(append([]string{c.name}, args...), " ") + ")"
	}
	return ""
}

// expr writes an expression, as an argument.
func (k *maker) expr(is api.Type, locals []local, depth int) string {
	for range 5 {
		if s := k.some(is, locals, depth); s != "" {
			return s
		}
	}
	return k.leaf(is, locals)
}

// some writes an expression of one of many kinds; nothing, if there is none of that kind.
func (k *maker) some(is api.Type, locals []local, depth int) string {
	inner := func(t api.Type) string { return k.expr(t, locals, depth-1) }
	kind := k.Intn(13)
	if depth == 0 {
		kind = k.Intn(3)
		inner = func(t api.Type) string { return k.leaf(t, locals) }
	}
	switch kind {
	case 0:
		return k.leaf(is, locals)
	case 1:
		return k.constructed(is, inner)
	case 2:
		return k.alone(is, locals)
	case 3, 4:
		return k.used(is, locals, inner)
	case 5:
		return k.operated(is, inner)
	case 6:
		return k.section(is, locals, inner)
	case 7:
		return k.lambda(is, locals, depth)
	case 8:
		return "(if " + inner(typ("Bool")) + " then " + inner(is) + " else " + inner(is) + ")"
	case 9, 10:
		return k.cases(is, locals, depth)
	case 11:
		return k.let(is, locals, depth)
	}
	t := k.typ(1)
	return pick(k.Rand, "(seq "+inner(t)+" "+inner(is)+")", "("+inner(t)+" `seq` "+inner(is)+")", "("+inner(fun(t, is))+" "+inner(t)+")")
}

func (k *maker) leaf(is api.Type, locals []local) string {
	for _, i := range k.Perm(len(locals)) {
		if sameType(locals[i].is, is) {
			return locals[i].name
		}
	}
	switch {
	case is.Kind == api.TyInt:
		return pick(k.Rand, "0", "1", "'a'", "0x1f")
	case is.Kind == api.TyFun:
		return k.lambda(is, locals, 1)
	case is.Kind == api.TyVar || k.Intn(4) == 0:
		return "stop"
	}
	return k.constructed(is, func(t api.Type) string { return k.leaf(t, locals) })
}

// alone writes what is built in, as it stands.
func (k *maker) alone(is api.Type, locals []local) string {
	for _, i := range k.Perm(7) {
		name, t := "(:)", "(a -> ((List a) -> (List a)))"
		switch i {
		case 0:
			name, t = "seq", "(a -> (b -> b))"
		case 1:
			name, t = "("+pick(k.Rand, "+", "-", "*", "/", "%")+")", "(Int -> (Int -> Int))"
		case 2:
			name, t = "("+pick(k.Rand, "==", "/=", "<", "<=", ">", ">=")+")", "(Int -> (Int -> Bool))"
		case 3:
			name, t = "\"ab\"", "(List Int)"
		}
		if _, ok := special(typ(t), is); ok {
			return name
		}
	}
	return k.leaf(is, locals)
}

// known is a function that may be called here: what it takes, and what it makes of that.
type known struct {
	name string
	args []api.Type
	to   api.Type
}

// fitting tells the functions that make a type of some arguments: locals, and definitions at whatever type.
func (k *maker) fitting(is api.Type, locals []local) []known {
	var l []known
	add := func(name string, t api.Type, fits func(to api.Type) ([]api.Bound, bool)) {
		var args []api.Type
		for ; ; t = t.Args[1] {
			if b, ok := fits(t); ok {
				n := known{name: name, to: is}
				for _, a := range args {
					n.args = append(n.args, put(b, a))
				}
				l = append(l, n)
			}
			if t.Kind != api.TyFun {
				return
			}
			args = append(args, t.Args[0])
		}
	}
	asItIs := func(to api.Type) ([]api.Bound, bool) { return nil, sameType(to, is) }
	for _, x := range locals {
		add(x.name, x.is, asItIs)
	}
	for i, d := range k.defs {
		switch {
		case i < k.here || k.style == free || k.style == inOrder && i < k.now:
			add(d.name, d.is, func(to api.Type) ([]api.Bound, bool) { return special(to, is) })
		case k.style == inRings || i == k.now:
			add(d.name, d.is, asItIs)
		}
	}
	return l
}

// infix writes a name as an operator.
func infix(name string) string {
	if name[0] == '(' {
		return strings.Trim(name, "()")
	}
	return "`" + name + "`"
}

// used writes a call of a local or of a definition.
func (k *maker) used(is api.Type, locals []local, inner func(api.Type) string) string {
	l := k.fitting(is, locals)
	if len(l) == 0 {
		return ""
	}
	f := pick(k.Rand, l...)
	var args []string
	for _, a := range f.args {
		args = append(args, inner(a))
	}
	if len(args) == 2 && k.Intn(2) == 0 {
		return "(" + args[0] + " " + infix(f.name) + " " + args[1] + ")"
	}
	return "(" + strings.Join(append([]string{f.name}, args...), " ") + ")"
}

// operated writes a row of a built-in operator.
func (k *maker) operated(is api.Type, inner func(api.Type) string) string {
	op := pick(k.Rand, "+", "-", "*", "/", "%")
	switch {
	case is.Name == "Bool":
		op = pick(k.Rand, "==", "/=", "<", "<=", ">", ">=")
	case is.Kind != api.TyInt:
		return ""
	}
	return "(" + inner(typ("Int")) + " " + op + " " + inner(typ("Int")) + ")"
}

// section writes a function as a row that lacks an operand.
func (k *maker) section(is api.Type, locals []local, inner func(api.Type) string) string {
	if is.Kind != api.TyFun {
		return ""
	}
	from, to := is.Args[0], is.Args[1]
	number := typ("Int")
	l := []known{{"`seq`", []api.Type{k.typ(1), to}, to}}
	for _, f := range k.fitting(to, locals) {
		if len(f.args) == 2 {
			f.name = infix(f.name)
			l = append(l, f)
		}
	}
	if to.Kind == api.TyInt {
		l = append(l, known{pick(k.Rand, "+", "*", "%"), []api.Type{number, number}, to})
	}
	if to.Name == "Bool" {
		l = append(l, known{pick(k.Rand, "==", "<", ">="), []api.Type{number, number}, to})
	}
	if to.Name == "List" {
		l = append(l, known{":", []api.Type{to.Args[0], to}, to})
	}
	for _, i := range k.Perm(len(l)) {
		f := l[i]
		switch {
		case sameType(f.args[0], from) && k.Intn(3) > 0:
			return "(" + f.name + " " + inner(f.args[1]) + ")"
		case sameType(f.args[1], from):
			return "(" + inner(f.args[0]) + " " + f.name + ")"
		}
	}
	return ""
}

func (k *maker) lambda(is api.Type, locals []local, depth int) string {
	arity := 0
	for t := is; t.Kind == api.TyFun && (arity == 0 || k.Intn(2) == 0); t = t.Args[1] {
		arity++
	}
	if arity == 0 {
		return ""
	}
	row, body := k.row(is, arity, locals, depth-1)
	return "(\\" + row + "-> " + body + ")"
}

func (k *maker) cases(is api.Type, locals []local, depth int) string {
	t := k.dataTyp(1 + k.Intn(2))
	looked := k.expr(t, locals, depth-1)
	if len(locals) > 0 && k.Intn(2) == 0 {
		x := pick(k.Rand, locals...)
		t, looked = x.is, x.name
	}
	s := "(case " + looked + " of {"
	for range 1 + k.Intn(k.rows) {
		row, body := k.row(fun(t, is), 1, locals, depth-1)
		s += row + "-> " + body + ";"
	}
	return s + "})"
}

func (k *maker) let(is api.Type, locals []local, depth int) string {
	var own []local
	for range 1 + k.Intn(3) {
		k.local(k.typ(1+k.Intn(2)), &own)
	}
	all := inside(locals, own)
	s := "(let {"
	for _, x := range own {
		s += k.clauses(x.name, x.is, all, depth-1)
	}
	return s + "} in " + k.expr(is, all, depth-1) + ")"
}

// sources hands on many sources, none of them long.
func sources(t *testing.T, seed int64, times int, do func(*maker, []string)) {
	t.Helper()
	r := rand.New(rand.NewSource(seed))
	for range times {
		k := &maker{Rand: r, style: pick(r, free, inOrder, inRings, inRings), sigs: pick(r, 0, 0, 3), rows: 1 + r.Intn(5)}
		if texts := k.texts(); len(strings.Join(texts, "")) < 20000 {
			do(k, texts)
		}
		if t.Failed() {
			return
		}
	}
}
