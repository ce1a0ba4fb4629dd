package compile_test

import (
	"fmt"
	"slices"
	"strconv"
	"strings"
	"testing"

	"sloth/api"
	"sloth/code"
	"sloth/core"
)

// count counts what was met, so that a test says when it met too little.
type count map[string]int

func (c count) add(met map[string]int) {
	for what, n := range met {
		c[what] += n
	}
}

func (c count) check(t *testing.T, least int, what ...string) {
	t.Helper()
	for _, s := range what {
		if c[s] < least {
			t.Errorf("too seldom: %s: %d", s, c[s])
		}
	}
}

// checkPlain: P18.1, P18.3: the answer is that of the second form.
func checkPlain(t *testing.T, p api.Program, met count) api.Table {
	t.Helper()
	want, m := plainTable(p)
	met.add(m)
	if e := code.Check(want); e != api.OK {
		t.Fatalf("the second form is wrong: %s: %v", printed(p), e)
	}
	got := compiled(t, p)
	if !alike(got, want) {
		t.Fatalf("%s\ncomes to\n%s\nwant\n%s", printed(p), shown(got), shown(want))
	}
	return got
}

// TestPlain: P18.1: programs made at random come to what the second form makes of them; each kind is built, worked out and ended with.
func TestPlain(t *testing.T) {
	t.Parallel()
	met := count{}
	many(t, 1, 1500, func(k *maker) { checkPlain(t, k.Program, met) })
	t.Log(met)
	for _, kind := range []string{"var", "int", "global", "app", "let", "case", "op", "seq", "hard", "fail", "con of nothing", "con of all", "con alone", "con that lacks"} {
		met.check(t, 60, "build "+kind, "work "+kind, "end "+kind)
	}
	met.check(t, 100, "head var", "head global", "head con alone", "head let", "head case", "head seq", "head hard", "head fail")
	met.check(t, 50, "a quote", "passed over", "of one that is called as a suspended one", "free 0", "free 1", "free 2", "free 3", "free 4")
	met.check(t, 500, "alternative 1", "alternative 2", "alternative 3", "no else")
}

// renamed is an expression whose locals are called otherwise.
func renamed(e api.Expr, names map[string]string) api.Expr {
	if e.Kind == api.ExprVar {
		e.Name = names[e.Name]
	}
	e.Args, e.Binds, e.Alts = slices.Clone(e.Args), slices.Clone(e.Binds), slices.Clone(e.Alts)
	for i, a := range e.Args {
		e.Args[i] = renamed(a, names)
	}
	for i, b := range e.Binds {
		value := b.Value
		if e.Kind != api.ExprLam {
			value = renamed(value, names)
		}
		e.Binds[i] = api.Bind{Name: names[b.Name], Type: b.Type, Value: value}
	}
	for i, a := range e.Alts {
		e.Alts[i].Vars = nil
		for _, name := range a.Vars {
			e.Alts[i].Vars = append(e.Alts[i].Vars, names[name])
		}
		e.Alts[i].Body = renamed(a.Body, names)
	}
	return e
}

// TestSame: P18.4: the same table, in whatever order the definitions stand, and whatever locals are called.
func TestSame(t *testing.T) {
	t.Parallel()
	many(t, 2, 300, func(k *maker) {
		want := compiled(t, k.Program)
		for range 3 {
			p := api.Program{Datas: k.Datas}
			for _, i := range k.Perm(len(k.Defs)) {
				d := k.Defs[i]
				was := locals(d.Body)
				names := map[string]string{}
				for j, to := range k.Perm(len(was)) { // the names that others have, too
					names[was[j]] = pick(k.Rand, was[to], fmt.Sprint("n", to), fmt.Sprint(d.Name, "!", to), fmt.Sprint("Cons", to))
				}
				taken := map[string]bool{}
				for _, name := range was {
					for taken[names[name]] {
						names[name] += "'"
					}
					taken[names[name]] = true
				}
				d.Body = renamed(d.Body, names)
				p.Defs = append(p.Defs, d)
			}
			if got := compiled(t, p); !alike(got, want) {
				t.Fatalf("%s\ncomes to\n%s\nbut\n%s\nto\n%s", printed(k.Program), shown(want), printed(p), shown(got))
			}
			q := api.Program{Datas: p.Datas}
			for _, d := range k.Defs {
				q.Defs = append(q.Defs, p.Defs[slices.IndexFunc(p.Defs, func(x api.Def) bool { return x.Name == d.Name })])
			}
			if is, e := core.Same(k.Program, q); e != api.OK || !is {
				t.Fatal("the test is wrong:", is, e)
			}
		}
		// nor on the order of the data types
		p := k.Program
		p.Datas = slices.Clone(p.Datas)
		slices.Reverse(p.Datas)
		if !alike(compiled(t, p), want) {
			t.Fatalf("%s: the order of data types matters", printed(p))
		}
	})
}

// ownCodes tells, of the globals of a definition, its own and those of its suspended expressions: their codes.
func ownCodes(all map[string]string, def string, defs []api.Def) map[string]string {
	own := map[string]string{}
	for name, s := range all {
		rest, isSo := strings.CutPrefix(name, def+"!")
		_, wrong := strconv.Atoi(rest)
		isDef := slices.ContainsFunc(defs, func(d api.Def) bool { return d.Name == name })
		isCon := strings.HasSuffix(s, ` pack "`+name+`" update 1 unwind`) // a constructor as a function, called so
		if name == def || isSo && wrong == nil && !isDef && !isCon {
			own[name] = s
		}
	}
	return own
}

// TestAlone: P18.5: a definition's globals hang on it and on which names there are alone: not on what other definitions are, nor on one more that nobody needs; and it has as many arguments as the definition has leading lambdas.
func TestAlone(t *testing.T) {
	t.Parallel()
	met := 0
	many(t, 3, 200, func(k *maker) {
		all := codes(t, compiled(t, k.Program))
		more := k.Program
		more.Defs = append(slices.Clone(more.Defs), read(t, fn("more", "x Int", list, cons("(op + \"x\" 1)", none))).Defs...)
		k.Shuffle(len(more.Defs), func(i, j int) { more.Defs[i], more.Defs[j] = more.Defs[j], more.Defs[i] })
		behind := codes(t, compiled(t, more))
		for name, s := range all {
			if behind[name] != s {
				t.Fatalf("%s\n%s becomes\n%s\nwhere there is one more that nobody needs\n%s", printed(k.Program), name, behind[name], s)
			}
		}
		if want := map[string]string{"more": "1 pack \"Nil\" push 1 glob \"more!1\" apply pack \"Cons\" update 2 pop 1 unwind", "more!1": "1 int 1 push 1 eval arith + update 2 pop 1 unwind"}; fmt.Sprint(ownCodes(behind, "more", nil)) != fmt.Sprint(want) || len(behind) != len(all)+2 {
			t.Fatal(ownCodes(behind, "more", nil))
		}
		for i, d := range k.Defs {
			lambdas := 0
			for e := d.Body; e.Kind == api.ExprLam; e = e.Args[0] {
				lambdas++
			}
			if !strings.HasPrefix(all[d.Name], fmt.Sprint(lambdas, " ")) {
				t.Fatalf("%s has %d leading lambdas: %s", d.Name, lambdas, all[d.Name])
			}
			p := api.Program{Datas: k.Datas, Defs: slices.Clone(k.Defs)} // of which all others are stuck
			for j := range p.Defs {
				if j != i {
					p.Defs[j].Body = k.stuck(p.Defs[j].Type)
				}
			}
			a, b := ownCodes(all, d.Name, k.Defs), ownCodes(codes(t, compiled(t, p)), d.Name, k.Defs)
			if strings.Contains(fmt.Sprint(a, b), "'\"") { // a name with a quote may be one less then
				continue
			}
			met++
			if fmt.Sprint(a) != fmt.Sprint(b) {
				t.Fatalf("%s\n%s becomes\n%v\nwhere all others are stuck\n%v", printed(k.Program), d.Name, a, b)
			}
		}
	})
	if met < 2000 {
		t.Error("too few:", met)
	}
}
