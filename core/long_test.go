package core_test

import (
	"fmt"
	"reflect"
	"strings"
	"testing"

	"sloth/api"
	"sloth/core"
)

// manyExprs is an expression in which one part stands so often that nobody could count it.
func manyExprs(levels int) api.Expr {
	e := num(1)
	for i := range levels {
		switch i % 4 {
		case 0:
			e = op("+", e, e)
		case 1:
			e = api.Expr{Kind: api.ExprLet, Binds: []api.Bind{{Value: e}, {Value: e}}, Args: []api.Expr{e}}
		case 2:
			e = cases(num(1), altInt(1, e), altElse(e))
		default:
			e = api.Expr{Args: []api.Expr{e}, Alts: []api.Alt{{Body: e}}}
		}
	}
	return e
}

func manyTypes(levels int) api.Type {
	t := integer
	for range levels {
		t = fun(t, t)
	}
	return t
}

// TestMany: W1: programs in which one part stands very many times.
func TestMany(t *testing.T) {
	t.Parallel()
	u := manyTypes(200)
	cons := make([]api.Con, 1<<18)
	fields := make([]api.Type, 1<<18)
	for i := range cons {
		cons[i].Fields = fields
	}
	datas := make([]api.Data, 1<<18)
	for i := range datas {
		datas[i].Cons = cons
	}
	for i, p := range []api.Program{
		one(integer, manyExprs(200)), one(u, num(1)), one(integer, con("Nil", u)), one(integer, lam("x", u, num(1))), one(integer, fail(1, u)),
		{Datas: datas}, {Datas: []api.Data{{Name: "T", Cons: []api.Con{{Name: "c", Fields: []api.Type{u}}}}}},
	} {
		soon(t, fmt.Sprint("program ", i), func() {
			checkCode(t, "Check", core.Check(p), api.ErrBig)
			_, code := core.Print(p)
			checkCode(t, "Print", code, api.ErrBig)
			_, code = core.Same(api.Program{}, p)
			checkCode(t, "Same", code, api.ErrBig)
			if len(p.Defs) > 0 {
				_, code = core.Type(api.Program{}, []api.Bind{{Name: "y", Type: integer, Value: p.Defs[0].Body}}, lam("x", p.Defs[0].Type, p.Defs[0].Body))
				checkCode(t, "Type", code, api.ErrBig)
			}
		})
	}
	soon(t, "a local's type", func() {
		_, code := core.Type(api.Program{}, []api.Bind{{Name: "x", Type: u}}, num(1))
		checkCode(t, "Type", code, api.ErrCoreType)
	})
	soon(t, "Size", func() {
		p := one(manyTypes(20), manyExprs(20))
		if n := core.Size(p); n != plainSize(p) || n < 1<<20 {
			t.Error(n)
		}
	})
	p := one(integer, manyExprs(13)) // a part stands often, but not too often
	soon(t, "fewer", func() { checkCode(t, "fewer", core.Check(p), plainCheck(p)) })
	e := num(1)
	for range 14 {
		e = op("+", e, e)
	}
	p = one(integer, e)
	checkCode(t, "shared", core.Check(p), api.OK)
	text, code := core.Print(p)
	checkCode(t, "shared", code, api.OK)
	if q, code := core.Read(text); code != api.OK || !alike(p, q) {
		t.Error(code)
	}
}

// TestFarDown: W1: what lies deeper than anything may.
func TestFarDown(t *testing.T) {
	t.Parallel()
	e, u := num(1), integer
	for range 1 << 20 {
		e, u = seq(num(1), e), data("List", u)
	}
	p := one(u, e)
	if n := core.Size(p); n != 1+(1<<20+1)+(1<<21+1) {
		t.Error(n)
	}
	checkCode(t, "deep", core.Check(p), api.ErrBig)
	_, code := core.Type(api.Program{}, nil, e)
	checkCode(t, "deep", code, api.ErrBig)
	_, code = core.Type(api.Program{}, []api.Bind{{Name: "x", Type: u}}, num(1))
	checkCode(t, "deep", code, api.ErrCoreType)
	for _, s := range []string{"(", ")", `"`, `\`, "(op + 1 ", "(List ", `(def "f" () Int (app `, "a ", `"a"`, "1", "(def", "()", `("x" `, `\"`} {
		soon(t, s, func() {
			text := strings.Repeat(s, api.MaxCoreText/len(s))
			if _, code := core.Read(text); code != api.ErrCoreText && code != api.ErrNest {
				t.Error(s, code)
			}
			text = `(def "f" () Int (case 1 (else (global "f" ` + text
			if _, code := core.Read(text[:min(len(text), api.MaxCoreText)]); code != api.ErrCoreText && code != api.ErrNest {
				t.Error(s, code)
			}
		})
	}
	for _, s := range []string{`(def "f" () Int (case 1 (else 1) (else 1)))`, `(def "f" () (List Int) (con "Nil" Int))`, `(data T (a) ("c" a a a a a))`, `(def "f" () Int (let (("x" Int 1) ("x" Int 1)) 1))`, `(def "f" () Int (case 1 (con "c" ("x" "y" "z" "w") 1)))`} {
		soon(t, s, func() {
			_, code := core.Read(strings.Repeat(s, api.MaxCoreText/len(s)))
			checkCode(t, s, code, api.ErrBig)
		})
	}
}

// behind is a number behind so many parts, which are worked out first; it is not deep.
func behind(n int, part func(i int) api.Expr) api.Expr {
	l := make([]api.Expr, n)
	for i := range l {
		l[i] = part(i)
	}
	for ; len(l) > 1; l = append(l[2:], seq(l[0], l[1])) {
	}
	return seq(l[0], num(1))
}

// TestTime: P8.11: great types, with long names in them, in very many places.
func TestTime(t *testing.T) {
	t.Parallel()
	long := strings.Repeat("a", api.MaxName)
	a := variable(long)
	is, u := great(399, a), data("T", data("Bool"))
	for what, e := range map[string]api.Expr{
		"globals":   behind(20000, func(int) api.Expr { return global("g", integer, data("Bool")) }),
		"arguments": behind(15000, func(int) api.Expr { return app(local("h"), global("g", a, integer)) }),
		"fields":    behind(12000, func(i int) api.Expr { return cases(local("t"), altCon("c", num(1), fmt.Sprint(i))) }),
		"cons":      behind(20000, func(int) api.Expr { return con("c", data("Bool")) }),
		"types":     behind(200, func(int) api.Expr { return fail(1, is) }),
		"numbers":   cases(num(1), numbers(30000)...),
		"binds":     let(local("x7"), binds(20000)...),
	} {
		p := api.Program{
			Datas: []api.Data{{Name: "T", Params: []string{long}, Cons: []api.Con{{Name: "c", Fields: []api.Type{is}}}}},
			Defs: []api.Def{
				{Name: "f", Params: []string{long, "b"}, Type: fun(u, fun(fun(is, integer), integer)), Body: lam("t", u, lam("h", fun(is, integer), e))},
				{Name: "g", Params: []string{long, "b"}, Type: is, Body: fail(1, is)},
			},
		}
		soon(t, what, func() {
			checkCode(t, what, core.Check(p), api.OK)
			if is, code := core.Same(p, p); !is || code != api.OK {
				t.Error(what, is, code)
			}
		})
	}
}

func numbers(n int) []api.Alt {
	var l []api.Alt
	for i := range n {
		l = append(l, altInt(i, num(1)))
	}
	return l
}

func binds(n int) []api.Bind {
	var l []api.Bind
	for i := range n {
		l = append(l, api.Bind{Name: fmt.Sprint("x", i), Type: integer, Value: local(fmt.Sprint("x", n-1-i))})
	}
	return l
}

// rooms notes the places of all room that lists have, and tells of one that two lists have.
type rooms struct {
	*testing.T
	places map[any]bool
}

func (r rooms) look(v reflect.Value) {
	switch v.Kind() {
	case reflect.Slice:
		all := v.Slice3(0, v.Cap(), v.Cap())
		for i := range all.Len() {
			at := all.Index(i).Addr().Interface()
			if r.places[at] {
				r.Error("two lists share memory")
			}
			r.places[at] = true
		}
		for i := range v.Len() {
			r.inside(v.Index(i))
		}
	default:
		r.inside(v)
	}
}

func (r rooms) inside(v reflect.Value) {
	if v.Kind() == reflect.Struct {
		for i := range v.NumField() {
			if k := v.Field(i).Kind(); k == reflect.Slice {
				r.look(v.Field(i))
			} else {
				r.inside(v.Field(i))
			}
		}
	}
}

// spare is something with room behind each of its lists, in which something stands.
func spare(v reflect.Value) {
	switch v.Kind() {
	case reflect.Slice:
		l := reflect.MakeSlice(v.Type(), v.Len()+1, v.Len()+1)
		reflect.Copy(l, v)
		for i := range v.Len() {
			spare(l.Index(i))
		}
		rubbish(l.Index(v.Len()))
		v.Set(l.Slice3(0, v.Len(), v.Len()+1))
	case reflect.Struct:
		for i := range v.NumField() {
			spare(v.Field(i))
		}
	}
}

func rubbish(v reflect.Value) {
	switch v.Kind() {
	case reflect.String:
		v.SetString("rubbish")
	case reflect.Struct:
		for i := range v.NumField() {
			rubbish(v.Field(i))
		}
	case reflect.Int:
		v.SetInt(99)
	}
}

// spared tells something with what stands in the room behind its lists.
func spared(v reflect.Value) string {
	switch v.Kind() {
	case reflect.Slice:
		s := "["
		all := v.Slice3(0, v.Cap(), v.Cap())
		for i := range all.Len() {
			s += spared(all.Index(i)) + " "
		}
		return s + fmt.Sprint("]", v.Len())
	case reflect.Struct:
		s := "{"
		for i := range v.NumField() {
			s += spared(v.Field(i)) + " "
		}
		return s + "}"
	}
	return fmt.Sprint(v)
}

// TestMemory: W2, W6: what is handed in stays, its spare room too; no two lists of what is handed in and of what is answered, twice, share any room.
func TestMemory(t *testing.T) {
	t.Parallel()
	many(t, 9, 300, func(k *maker) {
		p := bare(k.Program)
		if k.Intn(3) == 0 {
			k.spoil(&p)
		}
		x := k.seen[k.Intn(len(k.seen))]
		locals, e := bare(x.locals), bare(x.expr)
		in := struct {
			P, Q   api.Program
			Locals []api.Bind
			E      api.Expr
		}{p, bare(p), locals, e}
		v := reflect.ValueOf(&in).Elem()
		spare(v)
		before := spared(v)
		r := rooms{t, map[any]bool{}}
		r.look(v)
		for range 2 {
			code := core.Check(in.P)
			is, typeCode := core.Type(in.P, in.Locals, in.E)
			r.look(reflect.ValueOf(&is).Elem())
			same, sameCode := core.Same(in.P, in.Q)
			text, printCode := core.Print(in.P)
			q, readCode := core.Read(told(in.P))
			r.look(reflect.ValueOf(&q).Elem())
			if sameCode != code || printCode != code || same != (code == api.OK) || code != api.OK && typeCode != code {
				t.Error(code, typeCode, sameCode, printCode, same)
			}
			if code == api.OK && (text != told(in.P) || readCode != api.OK || !alike(is, x.is)) {
				t.Error(text, readCode, is)
			}
			if core.Size(in.P) != plainSize(in.P) {
				t.Error("Size")
			}
		}
		if after := spared(v); after != before {
			t.Errorf("%s\nhas become\n%s", before, after)
		}
	})
}

// TestAtOneTime: W2: calls that go on at one time answer the same.
func TestAtOneTime(t *testing.T) {
	t.Parallel()
	many(t, 10, 60, func(k *maker) {
		want := told(k.Program)
		texts := make(chan string)
		for range 8 {
			go func() {
				text, _ := core.Print(k.Program)
				q, _ := core.Read(text)
				if is, _ := core.Same(k.Program, q); !is {
					text = ""
				}
				texts <- text
			}()
		}
		for range 8 {
			if text := <-texts; text != want {
				t.Errorf("Print: %s, want %s", text, want)
			}
		}
	})
}
