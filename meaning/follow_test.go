package meaning_test

import (
	"fmt"
	"slices"
	"strings"
	"testing"

	"sloth/api"
	"sloth/core"
	"sloth/meaning"
)

func printed(p api.Program) string {
	s, code := core.Print(p)
	if code != api.OK {
		return fmt.Sprint(code, " of ", p)
	}
	return s
}

// TestPlain: P10.1 to P10.3, P10.7: programs made at random against the second form, with the steps; none is ever StuckForm.
func TestPlain(t *testing.T) {
	t.Parallel()
	met := map[string]int{}
	many(t, 1, 3000, func(k *maker) {
		for _, entry := range k.entries() {
			input, fuel := k.input(), pick(k.Rand, k.Intn(60), 400, 4000)
			o, code := meaning.Run(k.Program, entry, input, fuel)
			want := told(plainRun(k.Program, entry, input, fuel))
			if code != api.OK || told(o) != want || o.Stuck == api.StuckForm {
				t.Fatalf("%s\n%s, %d, %d: %s, %v, want %s", printed(k.Program), entry, input, fuel, short(told(o)), code, short(want))
			}
			end := strings.Fields(want)[0]
			met[end]++
			if len(o.Told) > 0 {
				met[end+" told"]++
			}
			if o.Steps > 50 {
				met[end+" late"]++
			}
		}
	})
	t.Log(met)
	for _, x := range []string{"done", "stop", "match", "zero", "loop", "fuel"} {
		for _, how := range []string{"", " told", " late"} {
			if met[x+how] < 20 {
				t.Errorf("%s is met %d times", x+how, met[x+how])
			}
		}
	}
}

func isBeginning(a, b []api.Item) bool { return len(a) <= len(b) && slices.Equal(a, b[:len(a)]) }

// TestMoreFuel: P10.4, P10.3: with more fuel, what was told is a beginning; what has ended stays.
func TestMoreFuel(t *testing.T) {
	t.Parallel()
	many(t, 2, 100, func(k *maker) {
		for _, entry := range k.entries() {
			input := k.input()
			last := api.Outcome{Kind: api.OutOfFuel}
			for fuel := 0; fuel < 3000; fuel += 1 + k.Intn(1+fuel/3) {
				o := run(t, k.Program, entry, input, fuel)
				switch {
				case last.Kind != api.OutOfFuel:
					if told(o) != told(last) {
						t.Fatalf("%s\n%s, %d: %s with less fuel, %s with %d", printed(k.Program), entry, input, told(last), told(o), fuel)
					}
				case !isBeginning(last.Told, o.Told), o.Steps > fuel, o.Steps <= last.Steps && fuel > 0, o.Kind == api.OutOfFuel && o.Steps != fuel:
					t.Fatalf("%s\n%s, %d: %s with less fuel, %s with %d", printed(k.Program), entry, input, told(last), told(o), fuel)
				}
				last = o
			}
		}
	})
}

// renamed is a program with other local names, some of which other definitions have too.
func (k *maker) renamed(p api.Program) api.Program {
	q := api.Program{Datas: p.Datas}
	for _, d := range p.Defs {
		names := map[string]string{}
		head := pick(k.Rand, "x", "y ", `"`, "(", "sum", "Nil")
		start := k.Intn(5)
		call := func(name string) string {
			names[name] = fmt.Sprint(head, start+len(names))
			return names[name]
		}
		d.Body = renamedExpr(d.Body, names, call)
		q.Defs = append(q.Defs, d)
	}
	return q
}

func renamedExpr(e api.Expr, names map[string]string, call func(string) string) api.Expr {
	e.Args, e.Binds, e.Alts = slices.Clone(e.Args), slices.Clone(e.Binds), slices.Clone(e.Alts)
	for i := range e.Binds {
		e.Binds[i].Name = call(e.Binds[i].Name)
	}
	if e.Kind == api.ExprVar {
		e.Name = names[e.Name]
	}
	for i := range e.Binds {
		e.Binds[i].Value = renamedExpr(e.Binds[i].Value, names, call)
	}
	for i := range e.Args {
		e.Args[i] = renamedExpr(e.Args[i], names, call)
	}
	for i := range e.Alts {
		a := &e.Alts[i]
		a.Vars = slices.Clone(a.Vars)
		for j := range a.Vars {
			a.Vars[j] = call(a.Vars[j])
		}
		a.Body = renamedExpr(a.Body, names, call)
	}
	return e
}

// reached is a program with only what can be reached from a definition.
func reached(p api.Program, entry string) api.Program {
	met := map[string]bool{entry: true}
	var types func(l ...api.Type)
	types = func(l ...api.Type) {
		for _, t := range l {
			types(t.Args...)
			if met["data "+t.Name] {
				continue
			}
			met["data "+t.Name] = true
			for _, d := range p.Datas {
				if d.Name == t.Name {
					for _, c := range d.Cons {
						types(c.Fields...)
					}
				}
			}
		}
	}
	var exprs func(e api.Expr)
	exprs = func(e api.Expr) {
		if e.Kind == api.ExprGlobal {
			met[e.Name] = true
		}
		if e.Kind == api.ExprCon {
			for _, d := range p.Datas {
				if slices.ContainsFunc(d.Cons, func(c api.Con) bool { return c.Name == e.Name }) {
					types(api.Type{Kind: api.TyData, Name: d.Name})
				}
			}
		}
		types(e.Types...)
		for _, x := range e.Args {
			exprs(x)
		}
		for _, b := range e.Binds {
			types(b.Type)
			exprs(b.Value)
		}
		for _, a := range e.Alts {
			exprs(a.Body)
		}
	}
	var q api.Program
	for ahead := -1; ahead < len(met); {
		ahead = len(met)
		for _, d := range p.Defs {
			if met[d.Name] {
				types(d.Type)
				exprs(d.Body)
			}
		}
	}
	for _, d := range p.Datas {
		if met["data "+d.Name] {
			q.Datas = append(q.Datas, d)
		}
	}
	for _, d := range p.Defs {
		if met[d.Name] {
			q.Defs = append(q.Defs, d)
		}
	}
	return q
}

// TestSame: P10.5: neither names of locals matter, nor what is not reached, nor the order of the definitions and data types.
func TestSame(t *testing.T) {
	t.Parallel()
	fewer := 0
	many(t, 3, 400, func(k *maker) {
		for _, entry := range k.entries() {
			input, fuel := k.input(), pick(k.Rand, k.Intn(60), 400, 4000)
			want := told(run(t, k.Program, entry, input, fuel))
			same := func(how string, q api.Program) {
				if code := core.Check(q); code != api.OK {
					t.Fatal("the test is wrong:", how, code, printed(k.Program))
				}
				if got := told(run(t, q, entry, input, fuel)); got != want {
					t.Fatalf("%s\n%s, %d, %d: %s, but %s %s", printed(k.Program), entry, input, fuel, want, how, got)
				}
			}
			q := k.renamed(k.Program)
			if !sameProgram(k.Program, q) {
				t.Fatal("the test is wrong:", printed(q))
			}
			same("with other names", q)
			less := reached(k.Program, entry)
			if len(less.Defs) < len(k.Defs) && len(less.Datas) < len(k.Datas) {
				fewer++
			}
			same("with only what is reached", less)
			other := api.Program{Datas: slices.Clone(less.Datas), Defs: slices.Clone(less.Defs)}
			more, _ := core.Read(`(data M.U () ("M.U1") ("M.U2" (Int -> M.U))) (data U (a) ("U")) (def "u1" () Int (global "u1")) (def "u2" (a) a (fail 1 a)) (def "u3" () M.U (app (con "M.U2") (lam "x1" Int (con "M.U1"))))`)
			other.Datas, other.Defs = append(other.Datas, more.Datas...), append(other.Defs, more.Defs...)
			k.Shuffle(len(other.Defs), func(i, j int) { other.Defs[i], other.Defs[j] = other.Defs[j], other.Defs[i] })
			k.Shuffle(len(other.Datas), func(i, j int) { other.Datas[i], other.Datas[j] = other.Datas[j], other.Datas[i] })
			same("with more, in another order", other)
		}
	})
	if fewer < 200 {
		t.Error("little that is not reached:", fewer)
	}
}

// TestInputWithin: P10.6: an input is as good as its numbers in the program.
func TestInputWithin(t *testing.T) {
	t.Parallel()
	met := map[int]int{}
	many(t, 4, 800, func(k *maker) {
		for _, entry := range k.entries() {
			i := slices.IndexFunc(k.Defs, func(d api.Def) bool { return d.Name == entry })
			if k.Defs[i].Type.Kind != api.TyFun {
				continue
			}
			input := k.input()
			l := api.Expr{Kind: api.ExprCon, Name: "Nil", Types: []api.Type{integer}}
			for _, n := range slices.Backward(input) {
				l = app(api.Expr{Kind: api.ExprCon, Name: "Cons", Types: []api.Type{integer}}, number(n), l)
			}
			q := api.Program{Datas: k.Datas, Defs: append(slices.Clone(k.Defs), api.Def{Name: "within", Type: k.Defs[i].Type.Args[1], Body: app(api.Expr{Kind: api.ExprGlobal, Name: entry}, l)})}
			a := run(t, k.Program, entry, input, pick(k.Rand, k.Intn(100), 400, 4000))
			b := run(t, q, "within", nil, pick(k.Rand, k.Intn(100), 400, 4000))
			if !isBeginning(a.Told, b.Told) && !isBeginning(b.Told, a.Told) || a.Kind == api.Done && b.Kind == api.Done && len(a.Told) != len(b.Told) || a.Kind == api.Stuck && b.Kind == api.Stuck && a.Stuck != b.Stuck {
				t.Fatalf("%s\n%s, %d: %s, within the program %s", printed(k.Program), entry, input, told(a), told(b))
			}
			if a.Kind == b.Kind {
				met[a.Kind]++
			}
		}
	})
	t.Log(met)
	if met[api.Done] < 500 || met[api.Stuck] < 100 || met[api.OutOfFuel] < 10 {
		t.Error("the test is wrong:", met)
	}
}
