package simplify_test

import (
	"fmt"
	"math/big"
	"slices"

	"sloth/api"
	"sloth/core"
	"sloth/types"
)

// plain is a second form of a round, by the chapter's words: expressions as they are, gone through again for each thing that is asked of them.
type plain struct {
	api.Program             // as it was when the round began
	heads       api.Program // the same, but for Bodies: so that types are soon told
	names       *int        // how many were called anew
	copied      int
	done        map[int]int // how often each rule was done
}

// plainRound does a round with a right program, some names having been called anew ahead of it.
func plainRound(p api.Program, names *int, done map[int]int) (api.Program, api.Errno) {
	k := &plain{Program: p, heads: api.Program{Datas: p.Datas}, names: names, done: done}
	for _, d := range p.Defs {
		d.Body = fail(1, d.Type)
		k.heads.Defs = append(k.heads.Defs, d)
	}
	q := api.Program{Datas: p.Datas}
	deep := 0
	for _, d := range p.Defs {
		d.Body = k.simple(d.Body, nil)
		deep = max(deep, depth(d.Body))
		q.Defs = append(q.Defs, d)
	}
	switch {
	case k.copied > api.MaxCore || core.Size(q) > api.MaxCore:
		return api.Program{}, api.ErrBig
	case deep > api.MaxDeep:
		return api.Program{}, api.ErrNest
	}
	return q, api.OK
}

// parts tells the Args, Values and Bodies of an expression.
func parts(e api.Expr) []api.Expr {
	l := slices.Clone(e.Args)
	for _, b := range e.Binds {
		if e.Kind != api.ExprLam {
			l = append(l, b.Value)
		}
	}
	for _, a := range e.Alts {
		l = append(l, a.Body)
	}
	return l
}

func depth(e api.Expr) int {
	deep := 0
	for _, x := range parts(e) {
		deep = max(deep, depth(x))
	}
	return deep + 1
}

// count tells how many expressions there are.
func count(e api.Expr) int {
	n := 1
	for _, x := range parts(e) {
		n += count(x)
	}
	return n
}

// spoken tells how often a local is spoken of.
func spoken(e api.Expr, name string) int {
	n := 0
	if e.Kind == api.ExprVar && e.Name == name {
		n++
	}
	for _, x := range parts(e) {
		n += spoken(x, name)
	}
	return n
}

// openly tells how often, within no lambda and no Value of a Bind.
func openly(e api.Expr, name string) int {
	n := 0
	if e.Kind == api.ExprVar && e.Name == name {
		n++
	}
	if e.Kind != api.ExprLam {
		for _, x := range e.Args {
			n += openly(x, name)
		}
	}
	for _, a := range e.Alts {
		n += openly(a.Body, name)
	}
	return n
}

// mapped is an expression with other parts.
func mapped(e api.Expr, f func(api.Expr) api.Expr) api.Expr {
	e.Args, e.Binds, e.Alts = slices.Clone(e.Args), slices.Clone(e.Binds), slices.Clone(e.Alts)
	for i := range e.Args {
		e.Args[i] = f(e.Args[i])
	}
	for i := range e.Binds {
		if e.Kind != api.ExprLam {
			e.Binds[i].Value = f(e.Binds[i].Value)
		}
	}
	for i := range e.Alts {
		e.Alts[i].Body = f(e.Alts[i].Body)
	}
	return e
}

// put is an expression with another wherever a local is spoken of.
func put(e api.Expr, name string, value api.Expr) api.Expr {
	if e.Kind == api.ExprVar && e.Name == name {
		return value
	}
	return mapped(e, func(x api.Expr) api.Expr { return put(x, name, value) })
}

func spine(e api.Expr) (head api.Expr, args []api.Expr) {
	for e.Kind == api.ExprApp {
		args = append([]api.Expr{e.Args[1]}, args...)
		e = e.Args[0]
	}
	return e, args
}

func bounds(params []string, args []api.Type) []api.Bound {
	var l []api.Bound
	for i := range params {
		l = append(l, api.Bound{Name: params[i], Type: args[i]})
	}
	return l
}

func replaced(params []string, args []api.Type, t api.Type) api.Type {
	t, code := types.Apply(bounds(params, args), t)
	if code != api.OK {
		panic(code)
	}
	return t
}

// typ is the type of an expression, where these locals are known.
func (k *plain) typ(e api.Expr, l []api.Bind) api.Type {
	t, code := core.Type(k.heads, l, e)
	if code != api.OK {
		panic(fmt.Sprint(code, " of ", e))
	}
	return t
}

func builtInDatas() []api.Data {
	return []api.Data{
		{Name: "Bool", Cons: []api.Con{{Name: "False"}, {Name: "True"}}},
		{Name: "Unit", Cons: []api.Con{{Name: "Unit"}}},
		{Name: "List", Params: []string{"a"}, Cons: []api.Con{{Name: "Nil"}, {Name: "Cons", Fields: []api.Type{typ("a"), typ("(List a)")}}}},
		{Name: "Pair", Params: []string{"a", "b"}, Cons: []api.Con{{Name: "Pair", Fields: []api.Type{typ("a"), typ("b")}}}},
		{Name: "Triple", Params: []string{"a", "b", "c"}, Cons: []api.Con{{Name: "Triple", Fields: []api.Type{typ("a"), typ("b"), typ("c")}}}},
	}
}

// fields tells the types of a constructor's fields, where these types stand for its data type's Params.
func (k *plain) fields(con string, args []api.Type) []api.Type {
	for _, d := range append(builtInDatas(), k.Datas...) {
		for _, c := range d.Cons {
			if c.Name == con {
				var l []api.Type
				for _, f := range c.Fields {
					l = append(l, replaced(d.Params, args, f))
				}
				return l
			}
		}
	}
	panic("no constructor " + con)
}

// inAlt tells the locals that are known in an alternative's Body.
func (k *plain) inAlt(e api.Expr, a api.Alt, l []api.Bind) []api.Bind {
	l = slices.Clone(l)
	if len(a.Vars) > 0 {
		fields := k.fields(a.Con, k.typ(e.Args[0], l).Args)
		for i, name := range a.Vars {
			l = append(l, api.Bind{Name: name, Type: fields[i]})
		}
	}
	return l
}

// simple makes an expression simpler, where these locals are known.
func (k *plain) simple(e api.Expr, l []api.Bind) api.Expr {
	inner := append(slices.Clone(l), e.Binds...)
	made := e
	made.Args, made.Binds, made.Alts = slices.Clone(e.Args), slices.Clone(e.Binds), slices.Clone(e.Alts)
	for i, b := range e.Binds {
		switch e.Kind {
		case api.ExprLet:
			made.Binds[i].Value = k.simple(b.Value, inner)
		case api.ExprHard:
			made.Binds[i].Value = k.simple(b.Value, l)
		}
	}
	for i := range e.Args {
		made.Args[i] = k.simple(e.Args[i], inner)
	}
	for i, a := range e.Alts {
		made.Alts[i].Body = k.simple(a.Body, k.inAlt(e, a, l))
	}
	for i, rule := range []func(api.Expr, []api.Bind) (api.Expr, bool){
		k.rule1, k.rule2, k.rule3, k.rule4, k.rule5, k.rule6, k.rule7, k.rule8, k.rule9, k.rule10, k.rule11, k.rule12, k.rule13, k.rule14, k.rule15,
	} {
		if x, ok := rule(made, l); ok {
			k.done[i+1]++
			return x
		}
	}
	return made
}

func isOf(e api.Expr, kind, first int) bool { return e.Kind == kind && e.Args[0].Kind == first }

func fail(num int, t api.Type) api.Expr {
	return api.Expr{Kind: api.ExprFail, Num: num, Types: []api.Type{t}}
}

func let(binds []api.Bind, body api.Expr) api.Expr {
	return api.Expr{Kind: api.ExprLet, Binds: binds, Args: []api.Expr{body}}
}

func (k *plain) rule1(e api.Expr, l []api.Bind) (api.Expr, bool) {
	if !isOf(e, api.ExprApp, api.ExprLam) {
		return e, false
	}
	b := e.Args[0].Binds[0]
	b.Value = e.Args[1]
	return let([]api.Bind{b}, e.Args[0].Args[0]), true
}

func (k *plain) rule2(e api.Expr, l []api.Bind) (api.Expr, bool) {
	if !isOf(e, api.ExprApp, api.ExprLet) {
		return e, false
	}
	return let(e.Args[0].Binds, app(e.Args[0].Args[0], e.Args[1])), true
}

func (k *plain) rule3(e api.Expr, l []api.Bind) (api.Expr, bool) {
	if !isOf(e, api.ExprApp, api.ExprFail) {
		return e, false
	}
	return fail(e.Args[0].Num, k.typ(e, l)), true
}

func (k *plain) def(name string) api.Def {
	return k.Defs[slices.IndexFunc(k.Defs, func(d api.Def) bool { return d.Name == name })]
}

func ownLambdas(e api.Expr) (lambdas int, behind api.Expr) {
	for e.Kind == api.ExprLam {
		e = e.Args[0]
		lambdas++
	}
	return lambdas, e
}

// needsIt: going on from definition to definition from an expression comes to one.
func (k *plain) needsIt(e api.Expr, name string, met map[string]bool) bool {
	if e.Kind == api.ExprGlobal {
		if e.Name == name {
			return true
		}
		if !met[e.Name] {
			met[e.Name] = true
			if k.needsIt(k.def(e.Name).Body, name, met) {
				return true
			}
		}
	}
	return slices.ContainsFunc(parts(e), func(x api.Expr) bool { return k.needsIt(x, name, met) })
}

func (k *plain) isSmall(d api.Def) bool {
	lambdas, behind := ownLambdas(d.Body)
	return lambdas > 0 && count(behind) <= api.MaxInline && !k.needsIt(d.Body, d.Name, map[string]bool{})
}

// mayStand: no type in the copy of an expression is too great.
func (k *plain) mayStand(e api.Expr, l []api.Bind, b []api.Bound) bool {
	all := append(slices.Clone(e.Types), k.typ(e, l))
	for _, x := range e.Binds {
		all = append(all, x.Type)
	}
	inner := append(slices.Clone(l), e.Binds...)
	for _, a := range e.Alts {
		known := k.inAlt(e, a, l)
		for _, x := range known[len(l):] {
			all = append(all, x.Type)
		}
		if !k.mayStand(a.Body, known, b) {
			return false
		}
	}
	for _, t := range all {
		if _, code := types.Apply(b, t); code != api.OK {
			return false
		}
	}
	for _, x := range e.Args {
		if !k.mayStand(x, inner, b) {
			return false
		}
	}
	for _, x := range e.Binds {
		known := inner
		if e.Kind == api.ExprHard {
			known = l
		}
		if e.Kind != api.ExprLam && !k.mayStand(x.Value, known, b) {
			return false
		}
	}
	return true
}

// copyOf is a copy of an expression: with types in the places of variables, and with new names.
func (k *plain) copyOf(e api.Expr, b []api.Bound, names map[string]string) api.Expr {
	swap := func(t api.Type) api.Type {
		t, code := types.Apply(b, t)
		if code != api.OK {
			panic(code)
		}
		return t
	}
	call := func(name string) string {
		*k.names++
		names[name] = fmt.Sprint("~", *k.names)
		return names[name]
	}
	e.Types, e.Args, e.Binds, e.Alts = slices.Clone(e.Types), slices.Clone(e.Args), slices.Clone(e.Binds), slices.Clone(e.Alts)
	for i := range e.Types {
		e.Types[i] = swap(e.Types[i])
	}
	if e.Kind == api.ExprVar {
		e.Name = names[e.Name]
	}
	for i := range e.Binds {
		e.Binds[i].Name, e.Binds[i].Type = call(e.Binds[i].Name), swap(e.Binds[i].Type)
	}
	for i := range e.Alts {
		e.Alts[i].Vars = slices.Clone(e.Alts[i].Vars)
		for j, name := range e.Alts[i].Vars {
			e.Alts[i].Vars[j] = call(name)
		}
	}
	return mapped(e, func(x api.Expr) api.Expr { return k.copyOf(x, b, names) })
}

func (k *plain) rule4(e api.Expr, l []api.Bind) (api.Expr, bool) {
	head, args := spine(e)
	if head.Kind != api.ExprGlobal {
		return e, false
	}
	d := k.def(head.Name)
	lambdas, _ := ownLambdas(d.Body)
	b := bounds(d.Params, head.Types)
	if !k.isSmall(d) || lambdas != len(args) || !k.mayStand(d.Body, nil, b) {
		return e, false
	}
	made := k.copyOf(d.Body, b, map[string]string{})
	k.copied += core.Size(api.Program{Defs: []api.Def{{Body: made}}}) - 2
	return app(made, args...), true
}

func (k *plain) rule5(e api.Expr, l []api.Bind) (api.Expr, bool) {
	if e.Kind != api.ExprCase {
		return e, false
	}
	head, args := spine(e.Args[0])
	if head.Kind != api.ExprCon || len(args) != len(k.fields(head.Name, head.Types)) {
		return e, false
	}
	for _, a := range e.Alts {
		if a.Kind == api.AltElse || a.Con == head.Name && len(args) == 0 {
			return a.Body, true
		}
		if a.Con == head.Name {
			var binds []api.Bind
			for i, t := range k.fields(head.Name, head.Types) {
				binds = append(binds, api.Bind{Name: a.Vars[i], Type: t, Value: args[i]})
			}
			return let(binds, a.Body), true
		}
	}
	return fail(api.StuckMatch, k.typ(e, l)), true
}

func (k *plain) rule6(e api.Expr, l []api.Bind) (api.Expr, bool) {
	if !isOf(e, api.ExprCase, api.ExprInt) {
		return e, false
	}
	for _, a := range e.Alts {
		if a.Kind == api.AltElse || a.Num == e.Args[0].Num {
			return a.Body, true
		}
	}
	return fail(api.StuckMatch, k.typ(e, l)), true
}

func (k *plain) rule7(e api.Expr, l []api.Bind) (api.Expr, bool) {
	if !isOf(e, api.ExprCase, api.ExprLet) {
		return e, false
	}
	return let(e.Args[0].Binds, api.Expr{Kind: api.ExprCase, Args: e.Args[0].Args, Alts: e.Alts}), true
}

func (k *plain) rule8(e api.Expr, l []api.Bind) (api.Expr, bool) {
	if !isOf(e, api.ExprCase, api.ExprFail) {
		return e, false
	}
	return fail(e.Args[0].Num, k.typ(e, l)), true
}

func (k *plain) rule9(e api.Expr, l []api.Bind) (api.Expr, bool) {
	if !isOf(e, api.ExprOp, api.ExprInt) || e.Args[1].Kind != api.ExprInt {
		return e, false
	}
	return plainOp(e.Name, e.Args[0].Num, e.Args[1].Num)
}

// plainOp: a number, or a constructor; false: by 0. Numbers are as great as they are, and wrapped behind that.
func plainOp(op string, m, n int) (api.Expr, bool) {
	a, b := big.NewInt(int64(m)), big.NewInt(int64(n))
	cmp := a.Cmp(b)
	holds, compares := map[string]bool{"==": cmp == 0, "/=": cmp != 0, "<": cmp < 0, "<=": cmp <= 0, ">": cmp > 0, ">=": cmp >= 0}[op]
	if compares {
		return api.Expr{Kind: api.ExprCon, Name: map[bool]string{false: "False", true: "True"}[holds]}, true
	}
	if n == 0 && (op == "/" || op == "%") {
		return api.Expr{}, false
	}
	var c big.Int
	switch op {
	case "+":
		c.Add(a, b)
	case "-":
		c.Sub(a, b)
	case "*":
		c.Mul(a, b)
	case "/":
		c.Quo(a, b)
	case "%":
		c.Rem(a, b)
	}
	all := new(big.Int).Lsh(big.NewInt(1), 63)
	c.Mod(&c, all)
	if c.Bit(62) == 1 {
		c.Sub(&c, all)
	}
	return number(int(c.Int64())), true
}

func (k *plain) rule10(e api.Expr, l []api.Bind) (api.Expr, bool) {
	if !isOf(e, api.ExprOp, api.ExprFail) {
		return e, false
	}
	return fail(e.Args[0].Num, k.typ(e, l)), true
}

func (k *plain) isValue(e api.Expr) bool {
	head, args := spine(e)
	switch {
	case e.Kind == api.ExprInt, e.Kind == api.ExprLam, head.Kind == api.ExprCon:
		return true
	case head.Kind == api.ExprGlobal:
		lambdas, _ := ownLambdas(k.def(head.Name).Body)
		return lambdas > len(args)
	}
	return false
}

func (k *plain) rule11(e api.Expr, l []api.Bind) (api.Expr, bool) {
	if e.Kind != api.ExprSeq || !k.isValue(e.Args[0]) {
		return e, false
	}
	return e.Args[1], true
}

func (k *plain) rule12(e api.Expr, l []api.Bind) (api.Expr, bool) {
	if !isOf(e, api.ExprSeq, api.ExprFail) {
		return e, false
	}
	return fail(e.Args[0].Num, k.typ(e.Args[1], l)), true
}

// fewer is an ExprLet with only these Binds.
func fewer(binds []api.Bind, body api.Expr) api.Expr {
	if len(binds) == 0 {
		return body
	}
	return let(binds, body)
}

func (k *plain) rule13(e api.Expr, l []api.Bind) (api.Expr, bool) {
	if e.Kind != api.ExprLet {
		return e, false
	}
	needed := map[string]bool{}
	for ahead := -1; ahead < len(needed); {
		ahead = len(needed)
		for _, b := range e.Binds {
			if spoken(e.Args[0], b.Name) > 0 || slices.ContainsFunc(e.Binds, func(o api.Bind) bool { return needed[o.Name] && spoken(o.Value, b.Name) > 0 }) {
				needed[b.Name] = true
			}
		}
	}
	binds := slices.DeleteFunc(slices.Clone(e.Binds), func(b api.Bind) bool { return !needed[b.Name] })
	return fewer(binds, e.Args[0]), len(binds) < len(e.Binds)
}

// without is an ExprLet without a Bind, whose name gives place to its Value.
func without(e api.Expr, at int) api.Expr {
	b := e.Binds[at]
	e = mapped(e, func(x api.Expr) api.Expr { return put(x, b.Name, b.Value) })
	return fewer(slices.Delete(e.Binds, at, at+1), e.Args[0])
}

func (k *plain) rule14(e api.Expr, l []api.Bind) (api.Expr, bool) {
	if e.Kind != api.ExprLet {
		return e, false
	}
	for i, b := range e.Binds {
		kind, own := b.Value.Kind, slices.ContainsFunc(e.Binds, func(o api.Bind) bool { return o.Name == b.Value.Name })
		if kind == api.ExprInt || kind == api.ExprCon || kind == api.ExprGlobal || kind == api.ExprVar && !own {
			return without(e, i), true
		}
	}
	return e, false
}

func (k *plain) rule15(e api.Expr, l []api.Bind) (api.Expr, bool) {
	if e.Kind != api.ExprLet {
		return e, false
	}
	for i, b := range e.Binds {
		if spoken(e, b.Name) == 1 && openly(e.Args[0], b.Name) == 1 {
			return without(e, i), true
		}
	}
	return e, false
}
