package core_test

import (
	"fmt"
	"slices"
	"strconv"
	"strings"

	"sloth/api"
	"sloth/types"
)

// A second form of the calls, by the chapter's words, without a thought of time. What is wrong is a panic with its number.

func caught(code *api.Errno) {
	if x := recover(); x != nil {
		*code = x.(api.Errno)
	}
}

func refuse(yes bool, code api.Errno) {
	if yes {
		panic(code)
	}
}

func plainSize(p api.Program) int {
	n := 0
	for _, d := range p.Datas {
		n++
		for _, c := range d.Cons {
			n += 1 + plainNodes(c.Fields...)
		}
	}
	for _, d := range p.Defs {
		n += 1 + plainNodes(d.Type) + plainExprSize(d.Body)
	}
	return n
}

func plainNodes(l ...api.Type) int {
	n := 0
	for _, t := range l {
		n += 1 + plainNodes(t.Args...)
	}
	return n
}

func plainExprSize(e api.Expr) int {
	n := 1 + plainNodes(e.Types...)
	for _, a := range e.Args {
		n += plainExprSize(a)
	}
	for _, b := range e.Binds {
		n += 1 + plainNodes(b.Type) + plainExprSize(b.Value)
	}
	for _, a := range e.Alts {
		n += 1 + len(a.Vars) + plainExprSize(a.Body)
	}
	return n
}

func plainDepth(e api.Expr) int {
	n := 0
	for _, a := range e.Args {
		n = max(n, plainDepth(a))
	}
	for _, b := range e.Binds {
		n = max(n, plainDepth(b.Value))
	}
	for _, a := range e.Alts {
		n = max(n, plainDepth(a.Body))
	}
	return n + 1
}

var builtIn = plainRead(`(data Bool () ("False") ("True")) (data Unit () ("Unit")) (data List (a) ("Nil") ("Cons" a (List a)))
	(data Pair (a b) ("Pair" a b)) (data Triple (a b c) ("Triple" a b c))`).Datas

// checker is a program with the built-in data types, and what is bound in one definition.
type checker struct {
	datas []api.Data
	defs  []api.Def
	bound map[string]bool
	known func(name string) bool // of variables
}

// env are the locals that are known at a place.
type env map[string]api.Type

func (v env) with(name string, t api.Type) env {
	out := env{name: t}
	for n, u := range v {
		if n != name {
			out[n] = u
		}
	}
	return out
}

func plainName(name string) bool {
	return name != "" && len(name) <= api.MaxName && strings.IndexFunc(name, func(r rune) bool { return r < 32 || r > 126 }) < 0
}

// plainTypeName: chapter 5.
func plainTypeName(kind int, name string) bool {
	_, code := types.Canon(api.Type{Kind: kind, Name: name})
	return code == api.OK
}

func in(name string, l []string) bool {
	for _, n := range l {
		if n == name {
			return true
		}
	}
	return false
}

// right: is a type right where some variables are known?
func (c *checker) right(t api.Type, known func(string) bool) bool {
	if _, code := types.Canon(t); code != api.OK {
		return false
	}
	return c.there(t, known)
}

func (c *checker) there(t api.Type, known func(string) bool) bool {
	if t.Kind == api.TyVar && !known(t.Name) {
		return false
	}
	if t.Kind == api.TyData {
		d, ok := c.data(t.Name)
		if !ok || len(d.Params) != len(t.Args) {
			return false
		}
	}
	for _, a := range t.Args {
		if !c.there(a, known) {
			return false
		}
	}
	return true
}

func (c *checker) data(name string) (api.Data, bool) {
	for _, d := range c.datas {
		if d.Name == name {
			return d, true
		}
	}
	return api.Data{}, false
}

func (c *checker) con(name string) (api.Data, api.Con, bool) {
	for _, d := range c.datas {
		for _, k := range d.Cons {
			if k.Name == name {
				return d, k, true
			}
		}
	}
	return api.Data{}, api.Con{}, false
}

func among(l []string) func(string) bool { return func(name string) bool { return in(name, l) } }

func everything(name string) bool { return plainTypeName(api.TyVar, name) }

func plainCheck(p api.Program) (code api.Errno) {
	defer caught(&code)
	c := plainLearn(p)
	for _, d := range p.Defs {
		c.bound, c.known = map[string]bool{}, among(d.Params)
		t := c.expr(d.Body, env{})
		refuse(!oneType(t, d.Type), api.ErrCoreType)
	}
	return api.OK
}

func plainLearn(p api.Program) *checker {
	refuse(plainSize(p) > api.MaxCore, api.ErrBig)
	for _, d := range p.Defs {
		refuse(plainDepth(d.Body) > api.MaxDeep, api.ErrNest)
	}
	c := &checker{datas: slices.Clone(builtIn)}
	for _, d := range p.Datas {
		c.meet(d)
		c.datas = append(c.datas, d)
	}
	for _, d := range p.Datas {
		for _, k := range d.Cons {
			for _, t := range k.Fields {
				refuse(!c.right(t, among(d.Params)), api.ErrCoreData)
			}
		}
	}
	for i, d := range p.Defs {
		refuse(!plainName(d.Name), api.ErrCoreName)
		for _, e := range p.Defs[:i] {
			refuse(e.Name == d.Name, api.ErrCoreName)
		}
		for j, name := range d.Params {
			refuse(!plainTypeName(api.TyVar, name) || in(name, d.Params[:j]), api.ErrCoreName)
		}
		refuse(!c.right(d.Type, among(d.Params)), api.ErrCoreType)
	}
	c.defs = p.Defs
	return c
}

func (c *checker) meet(d api.Data) {
	refuse(!plainTypeName(api.TyData, d.Name), api.ErrCoreName)
	for _, name := range d.Params {
		refuse(!plainTypeName(api.TyVar, name), api.ErrCoreName)
	}
	for _, k := range d.Cons {
		refuse(!plainName(k.Name), api.ErrCoreName)
	}
	_, twice := c.data(d.Name)
	refuse(twice || len(d.Params) > api.MaxParams || len(d.Cons) == 0 || len(d.Cons) > api.MaxCons, api.ErrCoreData)
	for i, k := range d.Cons {
		_, _, twice := c.con(k.Name)
		refuse(twice || len(k.Fields) > api.MaxFields, api.ErrCoreData)
		for _, ahead := range d.Cons[:i] {
			refuse(ahead.Name == k.Name, api.ErrCoreData)
		}
	}
	for i, name := range d.Params {
		refuse(in(name, d.Params[:i]), api.ErrCoreData)
	}
}

func plainType(p api.Program, locals []api.Bind, e api.Expr) (t api.Type, code api.Errno) {
	defer caught(&code)
	refuse(len(locals) > api.MaxCore, api.ErrLong)
	if code := plainCheck(p); code != api.OK {
		panic(code)
	}
	c := plainLearn(p)
	refuse(plainExprSize(e) > api.MaxCore, api.ErrBig)
	refuse(plainDepth(e) > api.MaxDeep, api.ErrNest)
	c.bound, c.known = map[string]bool{}, everything
	v := env{}
	for _, b := range locals {
		c.bind(b)
		v = v.with(b.Name, b.Type)
	}
	return c.expr(e, v), api.OK
}

func (c *checker) take(name string) {
	refuse(!plainName(name) || c.bound[name], api.ErrCoreName)
	c.bound[name] = true
}

func (c *checker) bind(b api.Bind) {
	c.take(b.Name)
	refuse(!c.right(b.Type, c.known), api.ErrCoreType)
}

func small(t api.Type) api.Type {
	refuse(plainNodes(t) > api.MaxType, api.ErrCoreType)
	return t
}

func oneType(a, b api.Type) bool {
	for i := range a.Args {
		if len(a.Args) != len(b.Args) || !oneType(a.Args[i], b.Args[i]) {
			return false
		}
	}
	return a.Kind == b.Kind && a.Name == b.Name && len(a.Args) == len(b.Args)
}

// replaced is a type with others for some variables.
func replaced(params []string, args []api.Type, t api.Type) api.Type {
	var l []api.Bound
	for i, name := range params {
		l = append(l, api.Bound{Name: name, Type: args[i]})
	}
	t, code := types.Apply(l, t)
	refuse(code != api.OK, api.ErrCoreType)
	return t
}

// fields says which fields each kind has: Name, Num, Types, Args, Binds, Alts; * any number, + one or more.
var fields = map[int]string{1: "N.0000", 2: ".N0000", 3: "N.*000", 4: "N.*000", 5: "..0200", 6: "..0110", 7: "..01+0", 8: "..010+", 9: "N.0200", 10: "..0200", 11: "..0110", 12: ".N1000"}

func (c *checker) form(e api.Expr) bool {
	row, ok := fields[e.Kind]
	if !ok || row[0] == '.' && e.Name != "" || row[1] == '.' && e.Num != 0 {
		return false
	}
	for i, n := range []int{len(e.Types), len(e.Args), len(e.Binds), len(e.Alts)} {
		switch want := row[2+i]; want {
		case '*':
		case '+':
			ok = ok && n > 0
		default:
			ok = ok && n == int(want-'0')
		}
	}
	switch {
	case !ok:
		return false
	case e.Kind == api.ExprLam:
		return alike(e.Binds[0].Value, api.Expr{})
	case e.Kind == api.ExprOp:
		return in(e.Name, strings.Fields("+ - * / % == /= < <= > >="))
	case e.Kind == api.ExprInt:
		return e.Num >= -1<<62 && e.Num <= 1<<62-1
	case e.Kind == api.ExprFail:
		return e.Num > 0 && e.Num < 5
	}
	return true
}

func (c *checker) expr(e api.Expr, v env) api.Type {
	refuse(!c.form(e), api.ErrCoreForm)
	var parts []api.Type
	if in(strconv.Itoa(e.Kind), strings.Fields("5 9 10")) {
		parts = []api.Type{c.expr(e.Args[0], v), c.expr(e.Args[1], v)}
	}
	switch e.Kind {
	case api.ExprVar:
		t, ok := v[e.Name]
		refuse(!ok, api.ErrCoreName)
		return t
	case api.ExprInt:
		return integer
	case api.ExprGlobal, api.ExprCon:
		return c.named(e)
	case api.ExprFail:
		refuse(!c.right(e.Types[0], c.known), api.ErrCoreType)
		return e.Types[0]
	case api.ExprApp:
		refuse(parts[0].Kind != api.TyFun || !oneType(parts[0].Args[0], parts[1]), api.ErrCoreType)
		return parts[0].Args[1]
	case api.ExprOp:
		refuse(parts[0].Kind != api.TyInt || parts[1].Kind != api.TyInt, api.ErrCoreType)
		if strings.ContainsAny(e.Name, "<>=") {
			return data("Bool")
		}
		return integer
	case api.ExprSeq:
		return parts[1]
	case api.ExprLam:
		b := e.Binds[0]
		c.bind(b)
		return small(fun(b.Type, c.expr(e.Args[0], v.with(b.Name, b.Type))))
	case api.ExprLet, api.ExprHard:
		return c.let(e, v)
	}
	return c.cases(e, v)
}

func (c *checker) let(e api.Expr, v env) api.Type {
	inner := v
	for _, b := range e.Binds {
		c.bind(b)
		inner = inner.with(b.Name, b.Type)
	}
	if e.Kind == api.ExprLet {
		v = inner
	}
	for _, b := range e.Binds {
		refuse(!oneType(c.expr(b.Value, v), b.Type), api.ErrCoreType)
	}
	return c.expr(e.Args[0], inner)
}

func (c *checker) named(e api.Expr) api.Type {
	var params []string
	var t api.Type
	found := false
	if e.Kind == api.ExprCon {
		d, k, ok := c.con(e.Name)
		params, found = d.Params, ok
		t = data(d.Name)
		for _, name := range d.Params {
			t.Args = append(t.Args, variable(name))
		}
		for i := len(k.Fields) - 1; i >= 0; i-- {
			t = fun(k.Fields[i], t)
		}
	}
	for _, d := range c.defs {
		if e.Kind == api.ExprGlobal && d.Name == e.Name {
			params, t, found = d.Params, d.Type, true
		}
	}
	refuse(!found, api.ErrCoreName)
	refuse(len(e.Types) != len(params), api.ErrCoreType)
	for _, u := range e.Types {
		refuse(!c.right(u, c.known), api.ErrCoreType)
	}
	return replaced(params, e.Types, t)
}

func (c *checker) cases(e api.Expr, v env) api.Type {
	of := c.expr(e.Args[0], v)
	refuse(of.Kind != api.TyInt && of.Kind != api.TyData, api.ErrCoreType)
	var first api.Type
	for i, a := range e.Alts {
		stray := map[int]bool{api.AltCon: a.Num != 0, api.AltInt: a.Con != "" || len(a.Vars) > 0, api.AltElse: a.Con != "" || a.Num != 0 || len(a.Vars) > 0}
		is, ok := stray[a.Kind]
		refuse(!ok || is || a.Kind == api.AltElse && i < len(e.Alts)-1, api.ErrCoreForm)
		refuse(a.Kind == api.AltCon && of.Kind == api.TyInt || a.Kind == api.AltInt && of.Kind != api.TyInt, api.ErrCoreForm)
		for _, ahead := range e.Alts[:i] {
			refuse(a.Kind != api.AltElse && a.Con == ahead.Con && a.Num == ahead.Num, api.ErrCoreForm)
		}
		refuse(a.Num < api.MinInt || a.Num > api.MaxInt, api.ErrCoreForm)
		inner := v
		if a.Kind == api.AltCon {
			inner = c.vars(a, of, v)
		}
		t := c.expr(a.Body, inner)
		if i == 0 {
			first = t
		}
		refuse(!oneType(t, first), api.ErrCoreType)
	}
	return first
}

// vars are the locals in an alternative of a constructor.
func (c *checker) vars(a api.Alt, of api.Type, v env) env {
	d, k, ok := c.con(a.Con)
	refuse(!ok || d.Name != of.Name, api.ErrCoreName)
	refuse(len(a.Vars) != len(k.Fields), api.ErrCoreForm)
	for _, name := range a.Vars {
		c.take(name)
	}
	for i, name := range a.Vars {
		v = v.with(name, replaced(d.Params, of.Args, k.Fields[i]))
	}
	return v
}

// numbered is a right program whose locals are named by the places at which they are bound.
func numbered(p api.Program) api.Program {
	p = bare(p)
	for i := range p.Defs {
		names := map[string]string{}
		each(&p.Defs[i].Body, func(name *string, binds bool) {
			if binds {
				names[*name] = fmt.Sprint("local ", len(names))
			}
		})
		each(&p.Defs[i].Body, func(name *string, _ bool) { *name = names[*name] })
	}
	return p
}

// each hands on every local name of an expression, and whether it is bound there.
func each(e *api.Expr, do func(name *string, binds bool)) {
	if e.Kind == api.ExprVar {
		do(&e.Name, false)
	}
	for i := range e.Binds {
		do(&e.Binds[i].Name, true)
	}
	for i := range e.Binds {
		each(&e.Binds[i].Value, do)
	}
	for i := range e.Args {
		each(&e.Args[i], do)
	}
	for i := range e.Alts {
		for j := range e.Alts[i].Vars {
			do(&e.Alts[i].Vars[j], true)
		}
		each(&e.Alts[i].Body, do)
	}
}

func plainSame(p, q api.Program) (bool, api.Errno) {
	for _, r := range []api.Program{p, q} {
		if code := plainCheck(r); code != api.OK {
			return false, code
		}
	}
	return alike(numbered(p), numbered(q)), api.OK
}
