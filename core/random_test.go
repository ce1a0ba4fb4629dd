package core_test

import (
	"fmt"
	"math/rand"
	"slices"
	"strings"
	"testing"

	"sloth/api"
	"sloth/types"
)

// maker makes right programs at random.
type maker struct {
	*rand.Rand
	api.Program
	datas []api.Data // with the built-in ones
	def   int        // the definition that is being made
	names int        // how many locals it has so far
	odd   bool       // names that look like nothing else
	seen  []place
}

// place is an expression of a definition, with its type and the locals that are known there.
type place struct {
	def    int
	locals []api.Bind
	is     api.Type
	expr   api.Expr
}

func pick[T any](r *rand.Rand, l ...T) T { return l[r.Intn(len(l))] }

// many hands on makers with right programs, till something fails.
func many(t *testing.T, seed int64, times int, do func(*maker)) {
	t.Helper()
	r := rand.New(rand.NewSource(seed))
	for range times {
		do(newMaker(r))
		if t.Failed() {
			return
		}
	}
}

func newMaker(r *rand.Rand) *maker {
	k := &maker{Rand: r, odd: r.Intn(3) == 0, datas: slices.Clone(builtIn)}
	letters := []string{"a", "b", "c'", "x_1", "z"}
	for i := range r.Intn(4) {
		d := api.Data{Name: pick(r, "M.T", "T", "A'.B_")}
		d.Name += fmt.Sprint(i)
		d.Params = append(d.Params, letters[:r.Intn(3)]...)
		k.Datas = append(k.Datas, d)
		k.datas = append(k.datas, d)
	}
	cons := 0
	for i := range k.Datas {
		for range 1 + r.Intn(3) {
			c := api.Con{Name: k.name("M.C", cons)}
			cons++
			for range r.Intn(4) * r.Intn(2) {
				c.Fields = append(c.Fields, k.typ(k.Datas[i].Params, 2))
			}
			k.Datas[i].Cons = append(k.Datas[i].Cons, c)
		}
		k.datas[len(k.datas)-len(k.Datas)+i] = k.Datas[i]
	}
	for i := range 1 + r.Intn(4) {
		params := append([]string{}, letters[r.Intn(3):][:r.Intn(3)]...)
		k.Defs = append(k.Defs, api.Def{Name: k.name("f", i), Params: params, Type: k.typ(params, 3)})
	}
	for i := range k.Defs {
		k.def, k.names = i, 0
		k.Defs[i].Body = k.expr(k.Defs[i].Type, nil, 1+r.Intn(6))
	}
	return k
}

func (k *maker) name(head string, i int) string {
	if k.odd {
		return fmt.Sprint(pick(k.Rand, `"`, `\`, " ", "(", `\"`, "a b)", "1", "~!", "Int"), i)
	}
	return fmt.Sprint(head, i)
}

func (k *maker) local() string {
	k.names++
	return k.name("x", k.names)
}

// typ makes a type, some levels deep, with variables of these.
func (k *maker) typ(params []string, deep int) api.Type {
	switch n := k.Intn(6); {
	case len(params) > 0 && n < 2:
		return variable(params[k.Intn(len(params))])
	case deep == 0 || n < 3:
		return pick(k.Rand, integer, data("Bool"))
	case n == 3:
		return fun(k.typ(params, deep-1), k.typ(params, deep-1))
	}
	d := k.datas[k.Intn(len(k.datas))]
	t := data(d.Name)
	for range d.Params {
		t.Args = append(t.Args, k.typ(params, deep-1))
	}
	return t
}

func (k *maker) types(n int) []api.Type {
	var l []api.Type
	for range n {
		l = append(l, k.typ(k.Defs[k.def].Params, 1))
	}
	return l
}

func (k *maker) someType() api.Type { return k.types(1)[0] }

func with(l []api.Bind, b ...api.Bind) []api.Bind {
	return append(append([]api.Bind{}, l...), b...)
}

// expr makes an expression of that type.
func (k *maker) expr(t api.Type, l []api.Bind, deep int) api.Expr {
	e := k.any(t, l, deep)
	k.seen = append(k.seen, place{def: k.def, locals: l, is: t, expr: e})
	return e
}

func (k *maker) any(t api.Type, l []api.Bind, deep int) api.Expr {
	for _, i := range k.Perm(len(l)) {
		if oneType(l[i].Type, t) && k.Intn(3) > 0 {
			return local(l[i].Name)
		}
	}
	if deep <= 0 {
		return k.leaf(t)
	}
	deep--
	switch k.Intn(11) {
	case 0:
		return k.lets(t, l, deep)
	case 1:
		b := api.Bind{Name: k.local(), Type: k.someType()}
		return hard(b.Name, b.Type, k.expr(b.Type, l, deep), k.expr(t, with(l, b), deep))
	case 2:
		return seq(k.expr(k.someType(), l, deep), k.expr(t, l, deep))
	case 3:
		of := k.someType()
		return app(k.expr(fun(of, t), l, deep), k.expr(of, l, deep))
	case 4, 5:
		return k.cases(t, l, deep)
	case 6, 7:
		if e, ok := k.global(t, l, deep); ok {
			return e
		}
	}
	return k.own(t, l, deep)
}

func (k *maker) leaf(t api.Type) api.Expr {
	if t.Kind == api.TyInt && k.Intn(4) > 0 {
		return num(pick(k.Rand, 0, 1, -1, 42, k.Int()>>1, api.MinInt, api.MaxInt))
	}
	if t.Kind == api.TyData {
		for _, c := range k.data(t.Name).Cons {
			if len(c.Fields) == 0 && k.Intn(3) > 0 {
				return con(c.Name, t.Args...)
			}
		}
	}
	return fail(1+k.Intn(4), t)
}

func (k *maker) data(name string) api.Data {
	for _, d := range k.datas {
		if d.Name == name {
			return d
		}
	}
	panic("no data type " + name)
}

// own makes an expression that only something of that type can be.
func (k *maker) own(t api.Type, l []api.Bind, deep int) api.Expr {
	switch {
	case t.Kind == api.TyFun:
		b := api.Bind{Name: k.local(), Type: t.Args[0]}
		return lam(b.Name, b.Type, k.expr(t.Args[1], with(l, b), deep))
	case t.Kind == api.TyInt:
		return op(pick(k.Rand, "+", "-", "*", "/", "%"), k.expr(integer, l, deep), k.expr(integer, l, deep))
	case t.Kind == api.TyVar:
		return k.leaf(t)
	case t.Name == "Bool" && k.Intn(3) > 0:
		return op(pick(k.Rand, "==", "/=", "<", "<=", ">", ">="), k.expr(integer, l, deep), k.expr(integer, l, deep))
	}
	d := k.data(t.Name)
	c := d.Cons[k.Intn(len(d.Cons))]
	e := con(c.Name, t.Args...)
	for _, f := range c.Fields {
		e = app(e, k.expr(replaced(d.Params, t.Args, f), l, deep))
	}
	return e
}

func (k *maker) lets(t api.Type, l []api.Bind, deep int) api.Expr {
	var e api.Expr
	for range 1 + k.Intn(3) {
		e.Binds = append(e.Binds, api.Bind{Name: k.local(), Type: k.someType()})
	}
	l = with(l, e.Binds...)
	for i, b := range e.Binds {
		e.Binds[i].Value = k.expr(b.Type, l, deep)
	}
	return let(k.expr(t, l, deep), e.Binds...)
}

func (k *maker) cases(t api.Type, l []api.Bind, deep int) api.Expr {
	of := k.someType()
	for of.Kind != api.TyInt && of.Kind != api.TyData {
		of = pick(k.Rand, integer, data("Bool"), data("List", integer), k.someType())
	}
	e := cases(k.expr(of, l, deep))
	if of.Kind == api.TyInt {
		for _, i := range k.Perm(3)[:k.Intn(3)] {
			e.Alts = append(e.Alts, altInt([]int{-7, 0, 5}[i], k.expr(t, l, deep)))
		}
	} else {
		d := k.data(of.Name)
		for _, i := range k.Perm(len(d.Cons))[:k.Intn(1+len(d.Cons))] {
			a, inner := altCon(d.Cons[i].Name, api.Expr{}), l
			for _, f := range d.Cons[i].Fields {
				b := api.Bind{Name: k.local(), Type: replaced(d.Params, of.Args, f)}
				a.Vars, inner = append(a.Vars, b.Name), with(inner, b)
			}
			a.Body = k.expr(t, inner, deep)
			e.Alts = append(e.Alts, a)
		}
	}
	if len(e.Alts) == 0 || k.Intn(3) == 0 {
		e.Alts = append(e.Alts, altElse(k.expr(t, l, deep)))
	}
	return e
}

// global makes a definition applied to so many things that it is of that type, if there is one.
func (k *maker) global(t api.Type, l []api.Bind, deep int) (api.Expr, bool) {
	for _, i := range k.Perm(len(k.Defs)) {
		d := k.Defs[i]
		args := 0
		for u := d.Type; ; u = u.Args[1] {
			if e, ok := k.applied(d, u, t, args, l, deep); ok {
				return e, true
			}
			if u.Kind != api.TyFun {
				break
			}
			args++
		}
	}
	return api.Expr{}, false
}

func (k *maker) applied(d api.Def, u, t api.Type, args int, l []api.Bind, deep int) (api.Expr, bool) {
	bounds, ok, code := types.Instance(u, t)
	if !ok || code != api.OK {
		return api.Expr{}, false
	}
	e := global(d.Name)
	for _, name := range d.Params {
		is := k.someType()
		for _, b := range bounds {
			if b.Name == name {
				is = b.Type
			}
		}
		e.Types = append(e.Types, is)
	}
	is := replaced(d.Params, e.Types, d.Type)
	for range args {
		e = app(e, k.expr(is.Args[0], l, deep))
		is = is.Args[1]
	}
	return e, true
}

// loose is a text with other blanks.
func (k *maker) loose(text string) string {
	var b strings.Builder
	blanks := func(least int) {
		for range least + k.Intn(3)*k.Intn(3) {
			b.WriteString(pick(k.Rand, " ", "\t", "\n", "\r"))
		}
	}
	last := byte('(')
	for _, s := range pieces.FindAllString(text, -1) {
		if s[0] == ' ' || s[0] == '\n' {
			continue
		}
		isWord := func(c byte) bool { return !strings.ContainsRune(`()"`, rune(c)) }
		if isWord(last) && isWord(s[0]) {
			blanks(1)
		} else {
			blanks(0)
		}
		b.WriteString(s)
		if last = s[0]; last == '"' {
			last = ')'
		}
	}
	blanks(0)
	return b.String()
}
