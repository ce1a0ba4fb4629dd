package compile_test

import (
	"fmt"
	"maps"
	"slices"
	"sort"
	"strings"

	"sloth/api"
	"sloth/builtin"
)

// plain is a second form of Compile, by the chapter's words: each scheme answers its instructions, which tell globals, constructors and the places to which they lead by names.
type plain struct {
	api.Program
	fields  map[string]int
	def     string // in whose code it is
	number  int    // of the last suspended expression
	waiting []plainGlobal
	labels  int
	made    []plainGlobal
	cons    map[string]bool // as functions
	met     map[string]int  // how often what was met
}

type plainGlobal struct {
	name   string
	params []string
	body   api.Expr
	code   []plainInstr
}

// plainInstr is an instruction, or (op 0) the label at which the next one stands.
type plainInstr struct {
	op, num  int
	name     string
	function bool // the name is a constructor's
	label    int
}

// lies is where a local lies, and those ahead of it.
type lies struct {
	name  string
	place int
	next  *lies
}

func (l *lies) of(name string) int {
	for ; l != nil; l = l.next {
		if l.name == name {
			return l.place
		}
	}
	panic("the second form is wrong: " + name)
}

// plainTable is what Compile is to answer, limits not looked at.
func plainTable(p api.Program) (api.Table, map[string]int) {
	k := &plain{Program: p, fields: map[string]int{}, cons: map[string]bool{}, met: map[string]int{}}
	for _, d := range slices.Concat(builtin.Datas(), p.Datas) {
		for _, c := range d.Cons {
			k.fields[c.Name] = len(c.Fields)
		}
	}
	for _, d := range p.Defs {
		k.def, k.number = d.Name, 0
		own := plainGlobal{name: d.Name, body: d.Body}
		for own.body.Kind == api.ExprLam {
			own.params, own.body = append(own.params, own.body.Binds[0].Name), own.body.Args[0]
		}
		k.waiting = []plainGlobal{own}
		for len(k.waiting) > 0 {
			g := k.waiting[0]
			k.waiting = k.waiting[1:]
			var l *lies
			for i, name := range g.params { // the i-th from 1 on has the place n - i + 1
				l = &lies{name, len(g.params) - (i + 1) + 1, l}
			}
			g.code = k.end(g.body, len(g.params)+1, l)
			k.made = append(k.made, g)
		}
	}
	return k.numbered(k.functions()), k.met
}

func (k *plain) isDef(name string) bool {
	return slices.ContainsFunc(k.Defs, func(d api.Def) bool { return d.Name == name })
}

// functions makes the globals of constructors as functions, and tells what they are called.
func (k *plain) functions() map[string]string {
	called := map[string]string{}
	names := map[string]bool{}
	for _, g := range k.made {
		names[g.name] = true
	}
	for _, c := range slices.Sorted(maps.Keys(k.cons)) {
		name := c
		for names[name] {
			name += "'"
			k.met["a quote"]++
		}
		names[name] = true
		called[c] = name
		g := plainGlobal{name: name, params: make([]string, k.fields[c]), code: []plainInstr{{op: api.OpPack, name: c}, {op: api.OpUpdate, num: 1}, {op: api.OpUnwind}}}
		k.made = append(k.made, g)
	}
	return called
}

// numbered sorts what was made, and puts numbers in the places of names.
func (k *plain) numbered(called map[string]string) api.Table {
	sort.Slice(k.made, func(i, j int) bool { return k.made[i].name < k.made[j].name })
	x := api.Table{Shapes: []api.Shape{{Name: "False"}, {Name: "True"}, {Name: "Unit"}, {Name: "Nil"}, {Name: "Cons", Fields: 2}, {Name: "Pair", Fields: 2}, {Name: "Triple", Fields: 3}}}
	shapes, globals := map[string]int{}, map[string]int{}
	for i, s := range x.Shapes {
		shapes[s.Name] = i
	}
	others := map[string]bool{}
	for i, g := range k.made {
		globals[g.name] = i
		for _, y := range g.code {
			if _, isFirst := shapes[y.name]; !isFirst && isOfCon(y.op) {
				others[y.name] = true
			}
		}
	}
	for _, name := range slices.Sorted(maps.Keys(others)) {
		shapes[name] = len(x.Shapes)
		x.Shapes = append(x.Shapes, api.Shape{Name: name, Fields: k.fields[name]})
	}
	for _, g := range k.made {
		at := map[int]int{}
		n := 0
		for _, y := range g.code {
			if y.op == 0 {
				at[y.label] = n
			} else {
				n++
			}
		}
		made := api.Global{Name: g.name, Arity: len(g.params)}
		for _, y := range g.code {
			z := api.Instr{Op: y.op, A: y.num}
			switch {
			case y.op == 0:
				continue
			case isOfCon(y.op):
				z.A = shapes[y.name]
			case y.op == api.OpGlobal && y.function:
				z.A = globals[called[y.name]]
			case y.op == api.OpGlobal:
				z.A = globals[y.name]
			case y.op == api.OpJump:
				z.A = at[y.label]
			}
			if y.op == api.OpTestCon || y.op == api.OpTestInt {
				z.B = at[y.label]
			}
			made.Code = append(made.Code, z)
		}
		x.Globals = append(x.Globals, made)
	}
	return x
}

func isOfCon(op int) bool {
	return op == api.OpPack || op == api.OpSplit || op == api.OpTestCon
}

func times(n int, y plainInstr) []plainInstr { return slices.Repeat([]plainInstr{y}, n) }

func push(l *lies, name string, d int) plainInstr {
	return plainInstr{op: api.OpPush, num: d - 1 - l.of(name)}
}

func headAndArgs(e api.Expr) (api.Expr, []api.Expr) {
	if e.Kind != api.ExprApp {
		return e, nil
	}
	h, l := headAndArgs(e.Args[0])
	return h, append(l, e.Args[1])
}

// isData: a number, a constructor of no fields, an application of a constructor to all its fields.
func (k *plain) isData(e api.Expr) bool {
	h, l := headAndArgs(e)
	return e.Kind == api.ExprInt || h.Kind == api.ExprCon && len(l) == k.fields[h.Name]
}

func (k *plain) build(e api.Expr, d int, l *lies) []plainInstr {
	k.met["build "+k.kindOf(e)]++
	h, args := headAndArgs(e)
	switch {
	case e.Kind == api.ExprVar:
		return []plainInstr{push(l, e.Name, d)}
	case e.Kind == api.ExprInt:
		return []plainInstr{{op: api.OpInt, num: e.Num}}
	case e.Kind == api.ExprGlobal:
		return []plainInstr{{op: api.OpGlobal, name: e.Name}}
	case e.Kind == api.ExprCon && k.fields[e.Name] > 0:
		k.cons[e.Name] = true
		return []plainInstr{{op: api.OpGlobal, name: e.Name, function: true}}
	case e.Kind == api.ExprCon:
		return []plainInstr{{op: api.OpPack, name: e.Name}}
	case e.Kind == api.ExprApp:
		var code []plainInstr
		for i := len(args) - 1; i >= 0; i-- {
			code = append(code, k.build(args[i], d, l)...)
			d++
		}
		if k.isData(e) {
			return append(code, plainInstr{op: api.OpPack, name: h.Name})
		}
		k.met["head "+k.kindOf(h)]++
		return append(append(code, k.build(h, d, l)...), times(len(args), plainInstr{op: api.OpApply})...)
	case e.Kind == api.ExprLet:
		code, l := k.let(e, d, l)
		m := len(e.Binds)
		return append(append(code, k.build(e.Args[0], d+m, l)...), plainInstr{op: api.OpSlide, num: m})
	}
	return k.suspended(e, d, l)
}

func (k *plain) let(e api.Expr, d int, l *lies) ([]plainInstr, *lies) {
	m := len(e.Binds)
	for i, b := range e.Binds {
		l = &lies{b.Name, d + i, l}
	}
	code := []plainInstr{{op: api.OpAlloc, num: m}}
	for i, b := range e.Binds {
		code = append(code, k.build(b.Value, d+m, l)...)
		code = append(code, plainInstr{op: api.OpUpdate, num: m - i})
	}
	return code, l
}

func (k *plain) suspended(e api.Expr, d int, l *lies) []plainInstr {
	k.number++
	for k.isDef(fmt.Sprint(k.def, "!", k.number)) {
		k.met["passed over"]++
		k.number++
	}
	g := plainGlobal{name: fmt.Sprint(k.def, "!", k.number), body: e}
	if strings.Contains(k.def, "!") {
		k.met["of one that is called as a suspended one"]++
	}
	bound := locals(e)
	for _, name := range spoken(e) {
		if !slices.Contains(bound, name) && !slices.Contains(g.params, name) {
			g.params = append(g.params, name)
		}
	}
	k.met[fmt.Sprint("free ", len(g.params))]++
	k.waiting = append(k.waiting, g)
	var code []plainInstr
	for _, y := range slices.Backward(g.params) {
		code = append(code, push(l, y, d))
		d++
	}
	code = append(code, plainInstr{op: api.OpGlobal, name: g.name})
	return append(code, times(len(g.params), plainInstr{op: api.OpApply})...)
}

func (k *plain) work(e api.Expr, d int, l *lies) []plainInstr {
	k.met["work "+k.kindOf(e)]++
	switch e.Kind {
	case api.ExprOp:
		code := append(k.work(e.Args[1], d, l), k.work(e.Args[0], d+1, l)...)
		return append(code, plainInstr{op: api.OpArith, num: 1 + slices.Index(strings.Fields("+ - * / % == /= < <= > >="), e.Name)})
	case api.ExprSeq:
		return append(append(k.work(e.Args[0], d, l), plainInstr{op: api.OpPop, num: 1}), k.work(e.Args[1], d, l)...)
	case api.ExprLet:
		code, l := k.let(e, d, l)
		m := len(e.Binds)
		return append(append(code, k.work(e.Args[0], d+m, l)...), plainInstr{op: api.OpSlide, num: m})
	case api.ExprHard:
		code := k.work(e.Binds[0].Value, d, l)
		l = &lies{e.Binds[0].Name, d, l}
		return append(append(code, k.work(e.Args[0], d+1, l)...), plainInstr{op: api.OpSlide, num: 1})
	case api.ExprCase:
		k.labels++
		behind := k.labels
		code := k.cases(e, d, l, func(body api.Expr, d int, l *lies, fields int, isLast bool) []plainInstr {
			code := k.work(body, d, l)
			if fields > 0 {
				code = append(code, plainInstr{op: api.OpSlide, num: fields})
			}
			if !isLast {
				code = append(code, plainInstr{op: api.OpJump, label: behind})
			}
			return code
		})
		return append(code, plainInstr{label: behind})
	}
	if k.isData(e) {
		return k.build(e, d, l)
	}
	return append(k.build(e, d, l), plainInstr{op: api.OpEval})
}

// cases: what is done with a body hangs on the scheme; isLast is of an AltElse.
func (k *plain) cases(e api.Expr, d int, l *lies, do func(body api.Expr, d int, l *lies, fields int, isLast bool) []plainInstr) []plainInstr {
	code := k.work(e.Args[0], d, l)
	for _, a := range e.Alts {
		k.met[fmt.Sprint("alternative ", a.Kind)]++
		if a.Kind == api.AltElse {
			return append(append(code, plainInstr{op: api.OpPop, num: 1}), do(a.Body, d, l, 0, true)...)
		}
		k.labels++
		next := k.labels
		if a.Kind == api.AltInt {
			code = append(code, plainInstr{op: api.OpTestInt, num: a.Num, label: next}, plainInstr{op: api.OpPop, num: 1})
			code = append(code, do(a.Body, d, l, 0, false)...)
		} else {
			code = append(code, plainInstr{op: api.OpTestCon, name: a.Con, label: next}, plainInstr{op: api.OpSplit, name: a.Con})
			m, inner := len(a.Vars), l
			for i, name := range a.Vars {
				inner = &lies{name, d + m - 1 - i, inner}
			}
			code = append(code, do(a.Body, d+m, inner, m, false)...)
		}
		code = append(code, plainInstr{label: next})
	}
	k.met["no else"]++
	return append(code, plainInstr{op: api.OpFail, num: api.StuckMatch})
}

func (k *plain) end(e api.Expr, d int, l *lies) []plainInstr {
	k.met["end "+k.kindOf(e)]++
	var code []plainInstr
	switch {
	case e.Kind == api.ExprFail:
		return []plainInstr{{op: api.OpFail, num: e.Num}}
	case e.Kind == api.ExprSeq:
		return append(append(k.work(e.Args[0], d, l), plainInstr{op: api.OpPop, num: 1}), k.end(e.Args[1], d, l)...)
	case e.Kind == api.ExprLet:
		code, l = k.let(e, d, l)
		return append(code, k.end(e.Args[0], d+len(e.Binds), l)...)
	case e.Kind == api.ExprHard:
		code = k.work(e.Binds[0].Value, d, l)
		return append(code, k.end(e.Args[0], d+1, &lies{e.Binds[0].Name, d, l})...)
	case e.Kind == api.ExprCase:
		return k.cases(e, d, l, func(body api.Expr, d int, l *lies, fields int, isLast bool) []plainInstr { return k.end(body, d, l) })
	case e.Kind == api.ExprOp || k.isData(e):
		code = k.work(e, d, l)
	default:
		code = k.build(e, d, l)
	}
	code = append(code, plainInstr{op: api.OpUpdate, num: d})
	if d-1 > 0 {
		code = append(code, plainInstr{op: api.OpPop, num: d - 1})
	}
	return append(code, plainInstr{op: api.OpUnwind})
}

// parts tells the Values, Args and Bodies of an expression, in that order.
func parts(e api.Expr) []api.Expr {
	var l []api.Expr
	for _, b := range e.Binds {
		if e.Kind != api.ExprLam {
			l = append(l, b.Value)
		}
	}
	l = append(l, e.Args...)
	for _, a := range e.Alts {
		l = append(l, a.Body)
	}
	return l
}

// locals tells all names that are bound in an expression.
func locals(e api.Expr) []string {
	var l []string
	for _, b := range e.Binds {
		l = append(l, b.Name)
	}
	for _, a := range e.Alts {
		l = append(l, a.Vars...)
	}
	for _, x := range parts(e) {
		l = append(l, locals(x)...)
	}
	return l
}

// spoken tells the names of locals that stand in an expression, in the order in which it is gone through, each as often as it stands.
func spoken(e api.Expr) []string {
	if e.Kind == api.ExprVar {
		return []string{e.Name}
	}
	var l []string
	for _, x := range parts(e) {
		l = append(l, spoken(x)...)
	}
	return l
}

// kindOf tells the kind of an expression; of a constructor, also with what it is applied to.
func (k *plain) kindOf(e api.Expr) string {
	h, l := headAndArgs(e)
	switch {
	case h.Kind != api.ExprCon:
		return strings.Fields("? var int global con app lam let case op seq hard fail")[e.Kind]
	case k.fields[h.Name] == 0:
		return "con of nothing"
	case len(l) == k.fields[h.Name]:
		return "con of all"
	case len(l) == 0:
		return "con alone"
	}
	return "con that lacks"
}
