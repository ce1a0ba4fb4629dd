package strict_test

import (
	"fmt"
	"math/big"
	"slices"
	"sync"

	"sloth/api"
	"sloth/builtin"
	"sloth/core"
	"sloth/lattice"
	"sloth/types"
)

// plain is a second form of Analyse, by the chapter's words: types are those that core.Type tells, all that is asked of elements is asked of lattice each time, numbers are as great as they are, and the tables of all definitions rise together.
type plain struct {
	api.Program
	bare   api.Program // the same with bodies that say nothing: types hang on no body
	trees  map[string]*tree
	known  map[string]bool
	tables map[string][]int // of those that are known
}

// tree is an expression with its type.
type tree struct {
	api.Expr
	typ    api.Type
	args   []*tree
	values []*tree
	bodies []*tree
}

func newPlain(p api.Program) *plain {
	k := &plain{Program: p, bare: api.Program{Datas: p.Datas}, trees: map[string]*tree{}, known: map[string]bool{}, tables: map[string][]int{}}
	for _, d := range p.Defs {
		d.Body = api.Expr{Kind: api.ExprFail, Num: 1, Types: []api.Type{d.Type}}
		k.bare.Defs = append(k.bare.Defs, d)
	}
	for _, d := range p.Defs {
		k.trees[d.Name] = k.tree(d.Body, nil)
	}
	return k
}

func with(l []api.Bind, b ...api.Bind) []api.Bind { return append(slices.Clone(l), b...) }

func (k *plain) tree(e api.Expr, sight []api.Bind) *tree {
	t, code := core.Type(k.bare, sight, e)
	if code != api.OK {
		panic(fmt.Sprint("the second form is wrong: ", code))
	}
	x := &tree{Expr: e, typ: t}
	inner := sight
	if e.Kind != api.ExprCase {
		inner = with(sight, e.Binds...)
	}
	for _, b := range e.Binds {
		switch e.Kind {
		case api.ExprLet:
			x.values = append(x.values, k.tree(b.Value, inner))
		case api.ExprHard:
			x.values = append(x.values, k.tree(b.Value, sight))
		}
	}
	for _, a := range e.Args {
		x.args = append(x.args, k.tree(a, inner))
	}
	for _, a := range e.Alts {
		x.bodies = append(x.bodies, k.tree(a.Body, with(sight, k.vars(a, x.args[0].typ)...)))
	}
	return x
}

// vars are the locals of an alternative, where something of that type is looked at.
func (k *plain) vars(a api.Alt, seen api.Type) []api.Bind {
	var l []api.Bind
	for _, d := range append(builtin.Datas(), k.Datas...) {
		for _, c := range d.Cons {
			for i, name := range a.Vars {
				if c.Name == a.Con {
					l = append(l, api.Bind{Name: name, Type: replaced(d.Params, seen.Args, c.Fields[i])})
				}
			}
		}
	}
	return l
}

// replaced is a type with others for its variables.
func replaced(params []string, args []api.Type, t api.Type) api.Type {
	if t.Kind == api.TyVar {
		return args[slices.Index(params, t.Name)]
	}
	t.Args = slices.Clone(t.Args)
	for i, a := range t.Args {
		t.Args[i] = replaced(params, args, a)
	}
	return t
}

// sizes keeps how many elements types have, by their texts.
var sizes sync.Map

// elements tells how many a type has, and whether it is known.
func elements(t api.Type) (int, bool) {
	text, _ := types.Print(t)
	n, ok := sizes.Load(text)
	if !ok {
		n = 1
		if size, code := lattice.Size(t); code == api.OK {
			n = size
		}
		sizes.Store(text, n)
	}
	return n.(int), n != 1 // no type that is known has one element
}

func greatest(t api.Type) int {
	n, _ := elements(t)
	return n - 1
}

// can says that 0 of a type is nothing.
func can(t api.Type) bool {
	_, ok := elements(t)
	return ok && t.Kind != api.TyFun
}

func join(t api.Type, a, b int) int {
	if _, ok := elements(t); !ok {
		return 0
	}
	v, code := lattice.Join(t, a, b)
	if code != api.OK {
		panic("the second form is wrong: join")
	}
	return v
}

// params tells the types of a definition's parameters, and its result.
func params(d api.Def) ([]api.Type, api.Type) {
	var l []api.Type
	t := d.Type
	for range arity(d.Body) {
		l, t = append(l, t.Args[0]), t.Args[1]
	}
	return l, t
}

func (k *plain) def(name string) api.Def {
	return k.Defs[slices.IndexFunc(k.Defs, func(d api.Def) bool { return d.Name == name })]
}

// at tells the number of a point.
func at(types []api.Type, point []int) int {
	number := 0
	for i, t := range types {
		n, _ := elements(t)
		number = number*n + point[i]
	}
	return number
}

// comes tells what an expression comes to, by elements for the local names.
func (k *plain) comes(x *tree, names map[string]int) int {
	switch x.Kind {
	case api.ExprVar:
		return names[x.Name]
	case api.ExprInt:
		return 1
	case api.ExprFail:
		return 0
	case api.ExprOp:
		if k.comes(x.args[0], names) == 1 && k.comes(x.args[1], names) == 1 {
			return 1
		}
		return 0
	case api.ExprSeq:
		if can(x.args[0].typ) && k.comes(x.args[0], names) == 0 {
			return 0
		}
		return k.comes(x.args[1], names)
	case api.ExprHard:
		v := k.comes(x.values[0], names)
		if can(x.values[0].typ) && v == 0 {
			return 0
		}
		names[x.Binds[0].Name] = v
		return k.comes(x.args[0], names)
	case api.ExprLet:
		k.settle(x, names)
		return k.comes(x.args[0], names)
	case api.ExprCase:
		return k.cases(x, names)
	}
	return k.application(x, names)
}

// settle finds the least elements of a let's names.
func (k *plain) settle(x *tree, names map[string]int) {
	for _, b := range x.Binds {
		names[b.Name] = 0
	}
	for changed := true; changed; {
		changed = false
		made := make([]int, len(x.values))
		for i, v := range x.values {
			made[i] = k.comes(v, names)
		}
		for i, b := range x.Binds {
			changed = changed || names[b.Name] != made[i]
			names[b.Name] = made[i]
		}
	}
}

func (k *plain) cases(x *tree, names map[string]int) int {
	seen, of := k.comes(x.args[0], names), x.args[0].typ
	if seen == 0 {
		return 0
	}
	found := 0
	count := func(i int, fields ...int) {
		for j, name := range x.Alts[i].Vars {
			names[name] = fields[j]
		}
		found = join(x.typ, found, k.comes(x.bodies[i], names))
	}
	isList := of.Kind == api.TyData && of.Name == "List"
	longer := slices.IndexFunc(x.Alts, func(a api.Alt) bool { return a.Con == "Cons" })
	if longer < 0 {
		longer = slices.IndexFunc(x.Alts, func(a api.Alt) bool { return a.Kind == api.AltElse })
	}
	switch {
	case !isList || seen == 3:
		for i, a := range x.Alts {
			var fields []int
			for _, b := range k.vars(a, of) {
				fields = append(fields, greatest(b.Type))
			}
			count(i, fields...)
		}
	case longer < 0:
	case seen == 1:
		count(longer, greatest(of.Args[0]), 1)
	case seen == 2:
		count(longer, 0, 3)
		count(longer, greatest(of.Args[0]), 2)
	}
	return found
}

func (k *plain) application(x *tree, names map[string]int) int {
	var args []*tree
	head := x
	for ; head.Kind == api.ExprApp; head = head.args[0] {
		args = append([]*tree{head.args[1]}, args...)
	}
	var given []int
	for _, a := range args {
		given = append(given, k.comes(a, names))
	}
	takes := 0
	switch head.Kind {
	case api.ExprGlobal:
		takes = arity(k.def(head.Name).Body)
	case api.ExprCon:
		for t := k.con(head.Name); t.Kind == api.TyFun; t = t.Args[1] {
			takes++
		}
	default:
		return k.apply(head.typ, k.comes(head, names), given)
	}
	if len(given) < takes {
		return k.lacking(x.typ, head, given, takes)
	}
	t := head.typ
	for range takes {
		t = t.Args[1]
	}
	return k.apply(t, k.whole(head, given[:takes]), given[takes:])
}

// con is the type of a constructor, with its data type's parameters in it.
func (k *plain) con(name string) api.Type {
	for _, d := range append(builtin.Datas(), k.Datas...) {
		for _, c := range d.Cons {
			if c.Name == name {
				t := api.Type{Kind: api.TyData, Name: d.Name}
				for _, f := range slices.Backward(c.Fields) {
					t = api.Type{Kind: api.TyFun, Args: []api.Type{f, t}}
				}
				return t
			}
		}
	}
	panic("the second form is wrong: no constructor")
}

// apply applies an element of a function type to elements.
func (k *plain) apply(t api.Type, f int, args []int) int {
	for _, x := range args {
		if _, ok := elements(t); !ok {
			f = greatest(t.Args[1])
		} else {
			v, code := lattice.Apply(t, f, x)
			if code != api.OK {
				panic("the second form is wrong: apply")
			}
			f = v
		}
		t = t.Args[1]
	}
	return f
}

// lacking is the function that makes of elements for the arguments that are not given what the whole comes to.
func (k *plain) lacking(t api.Type, head *tree, given []int, takes int) int {
	if len(given) == takes {
		return k.whole(head, given)
	}
	n, ok := elements(t)
	if !ok {
		return 0
	}
	n, _ = elements(t.Args[0])
	var results []int
	for x := range n {
		results = append(results, k.lacking(t.Args[1], head, append(slices.Clone(given), x), takes))
	}
	f, code := lattice.Of(t, results)
	if code != api.OK {
		panic("no monotone function")
	}
	return f
}

// whole is a definition or a constructor with all its arguments.
func (k *plain) whole(head *tree, args []int) int {
	switch {
	case head.Kind == api.ExprGlobal:
		d := k.def(head.Name)
		of, result := params(d)
		if !k.known[d.Name] {
			return greatest(result)
		}
		return k.tables[d.Name][at(of, args)]
	case head.Name == "Nil":
		return 3
	case head.Name != "Cons":
		return 1
	}
	_, ok := elements(head.Types[0])
	switch x, l := args[0], args[1]; {
	case l <= 1:
		return 1
	case l == 2 || ok && x == 0:
		return 2
	}
	return 3
}

// weigh tells what an expression weighs.
func weigh(x *tree) *big.Int {
	sum := func(l []*tree) *big.Int {
		n := new(big.Int)
		for _, y := range l {
			n.Add(n, weigh(y))
		}
		return n
	}
	values, bodies := sum(x.values), sum(x.bodies)
	if x.Kind == api.ExprCase && x.args[0].typ.Name == "List" {
		bodies.Mul(bodies, big.NewInt(2))
	}
	if x.Kind == api.ExprLet {
		names, size := []string{}, 1
		for _, b := range x.Binds {
			n, _ := elements(b.Type)
			names, size = append(names, b.Name), size+n
		}
		if slices.ContainsFunc(x.values, func(v *tree) bool { return speaks(v, api.ExprVar, names) }) {
			values.Mul(values, big.NewInt(int64(size)))
		}
	}
	n := sum(x.args)
	return n.Add(n, values).Add(n, bodies).Add(n, big.NewInt(1))
}

// speaks tells whether one of these names stands in an expression.
func speaks(x *tree, kind int, names []string) bool {
	return x.Kind == kind && slices.Contains(names, x.Name) ||
		slices.ContainsFunc(slices.Concat(x.args, x.values, x.bodies), func(y *tree) bool { return speaks(y, kind, names) })
}

// know finds out which definitions are known; it answers their weights and points.
func (k *plain) know() (weights, points []*big.Int) {
	n := len(k.Defs)
	needs, rises := make([][]bool, n), make([]*big.Int, n)
	for i, d := range k.Defs {
		needs[i] = make([]bool, n)
		for j, other := range k.Defs {
			needs[i][j] = speaks(k.trees[d.Name], api.ExprGlobal, []string{other.Name})
		}
		types, result := params(d)
		all := big.NewInt(1)
		for _, t := range types {
			size, _ := elements(t)
			all.Mul(all, big.NewInt(int64(size)))
		}
		weights, points = append(weights, weigh(k.trees[d.Name])), append(points, all)
		rises[i] = new(big.Int).Mul(all, big.NewInt(int64(greatest(result))))
	}
	for m := range n {
		for i := range n {
			for j := range n {
				needs[i][j] = needs[i][j] || needs[i][m] && needs[m][j]
			}
		}
	}
	left := big.NewInt(api.MaxWork)
	for i := range n {
		var group []int
		for j := range n {
			if i == j || needs[i][j] && needs[j][i] {
				group = append(group, j)
			}
		}
		if group[0] < i {
			continue
		}
		work, rounds, few := new(big.Int), big.NewInt(1), true
		for _, j := range group {
			work.Add(work, new(big.Int).Mul(weights[j], points[j]))
			rounds.Add(rounds, rises[j])
			few = few && points[j].Cmp(big.NewInt(api.MaxPoints)) <= 0
		}
		if needs[i][i] { // some body of the group speaks of the group
			work.Mul(work, rounds)
		}
		if few && work.Cmp(left) <= 0 {
			left.Sub(left, work)
			for _, j := range group {
				k.known[k.Defs[j].Name] = true
			}
		}
	}
	return weights, points
}

// workOut lets all tables rise at one time.
func (k *plain) workOut() {
	for _, d := range k.Defs {
		if types, _ := params(d); k.known[d.Name] {
			n := 1
			for _, t := range types {
				size, _ := elements(t)
				n *= size
			}
			k.tables[d.Name] = make([]int, n)
		}
	}
	for changed := true; changed; {
		changed = false
		made := map[string][]int{}
		for name, table := range k.tables {
			made[name] = k.table(k.def(name), len(table))
			changed = changed || !slices.Equal(table, made[name])
		}
		k.tables = made
	}
}

// table works one out at all its points.
func (k *plain) table(d api.Def, points int) []int {
	var made []int
	types, _ := params(d)
	for number := range points {
		names, x := map[string]int{}, k.trees[d.Name]
		for i := range types {
			rest := number
			for _, t := range types[i+1:] {
				size, _ := elements(t)
				rest /= size
			}
			size, _ := elements(types[i])
			names[x.Binds[0].Name] = rest % size
			x = x.args[0]
		}
		made = append(made, k.comes(x, names))
	}
	return made
}

// signature reads a definition's off its table.
func (k *plain) signature(d api.Def) api.Signature {
	types, result := params(d)
	s := api.Signature{Name: d.Name, Known: k.known[d.Name], Args: make([]int, len(types))}
	if !s.Known || !can(result) {
		return s
	}
	for i, t := range types {
		size, ok := elements(t)
		for x := range size {
			point := make([]int, len(types))
			for j := range point {
				point[j] = greatest(types[j])
			}
			point[i] = x
			if ok && k.tables[d.Name][at(types, point)] == 0 {
				s.Args[i] = x + 1
			}
		}
	}
	return s
}
