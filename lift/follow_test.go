package lift_test

import (
	"fmt"
	"math/rand"
	"slices"
	"testing"

	"sloth/api"
	"sloth/core"
	"sloth/lift"
)

// seen counts what was met, so that a test says when it met too little.
type seen struct {
	codes     map[api.Errno]int
	functions int
	own       map[int]int // how many of them became definitions with so many own lambdas
}

func newSeen() seen { return seen{codes: map[api.Errno]int{}, own: map[int]int{}} }

// checkPlain: a program comes to what the second form says.
func (s *seen) checkPlain(t *testing.T, p api.Program) {
	t.Helper()
	want, code := plainLift(p)
	got, gotCode := lift.Lift(p)
	if code != gotCode || code == api.OK && !alike(got, want) {
		t.Fatalf("%s\ncomes to %v\n%s\nwant %v\n%s", printed(p), gotCode, printed(got), code, printed(want))
	}
	s.codes[code]++
	s.functions += len(want.Defs) - len(p.Defs)
	for _, d := range want.Defs {
		if n, _ := arity(d.Body); whose(p, d.Name) != d.Name {
			s.own[n]++
		}
	}
}

// crowds hands on crowds, till something fails.
func crowds(t *testing.T, seed int64, times int, do func(api.Program)) {
	t.Helper()
	r := rand.New(rand.NewSource(seed))
	for range times {
		p := newCrowd(r)
		if code := core.Check(p); code != api.OK {
			t.Fatal("the maker is wrong:", code, printed(p))
		}
		if do(p); t.Failed() {
			return
		}
	}
}

// TestPlain: P13.1: programs made at random against the second form.
func TestPlain(t *testing.T) {
	t.Parallel()
	s := newSeen()
	many(t, 1, 250, func(k *maker) { s.checkPlain(t, k.Program) })
	t.Log(s)
	if s.codes[api.OK] < 240 || s.functions < 4000 {
		t.Error("few that are lifted, or few functions:", s)
	}
}

// TestPlainCrowd: the same, of functions that speak of many locals and of one another.
func TestPlainCrowd(t *testing.T) {
	t.Parallel()
	s := newSeen()
	crowds(t, 2, 250, func(p api.Program) { s.checkPlain(t, p) })
	t.Log(s)
	for n := 1; n <= api.MaxArity+1; n++ {
		if s.own[n] < 15 {
			t.Errorf("%d functions of %d own lambdas", s.own[n], n)
		}
	}
	if s.codes[api.OK] < 200 || s.codes[api.ErrBig] < 5 {
		t.Error("few that are lifted, or few that are not:", s)
	}
}

// TestAgain: P13.3: the answer is right, Lifted, and stays as it is; so does a program that was Lifted.
func TestAgain(t *testing.T) {
	t.Parallel()
	check := func(p api.Program) {
		if _, code := lift.Lift(p); code == api.OK {
			lifted(t, p)
		}
		if got := lift.Lifted(p); got != (lambdasWithin(p) == 0) {
			t.Fatalf("Lifted says %v of %s", got, printed(p))
		}
	}
	many(t, 3, 80, func(k *maker) {
		check(k.Program)
		for _, d := range k.Defs { // each one alone
			check(alone(k.Program, d.Name))
		}
	})
	crowds(t, 4, 60, check)
}

// alone is a program in which all definitions but one are stuck.
func alone(p api.Program, name string) api.Program {
	p.Defs = slices.Clone(p.Defs)
	for i, d := range p.Defs {
		if d.Name != name {
			p.Defs[i].Body = api.Expr{Kind: api.ExprFail, Num: 1, Types: []api.Type{d.Type}}
		}
	}
	return p
}

// pieces tells what each definition of p became: itself and those of its functions, in their order. They stand in a row each, in the order of p.
func pieces(t *testing.T, p, q api.Program) map[string][]api.Def {
	t.Helper()
	made := map[string][]api.Def{}
	var order []string
	for _, d := range q.Defs {
		name := whose(p, d.Name)
		if made[name] == nil {
			order = append(order, name)
		}
		made[name] = append(made[name], d)
		if last := order[len(order)-1]; last != name || made[name][0].Name != name {
			t.Fatalf("%s stands behind %s: %s", d.Name, last, names(q))
		}
	}
	for i, d := range p.Defs {
		if i >= len(order) || order[i] != d.Name {
			t.Fatalf("the order is %s, of %s", order, names(p))
		}
	}
	return made
}

// TestStay: P13.5: each definition is there with its Name, its Type and its own lambdas, data types as they were.
func TestStay(t *testing.T) {
	t.Parallel()
	check := func(p api.Program) {
		q, code := lift.Lift(p)
		if code != api.OK {
			return
		}
		made := pieces(t, p, q)
		for _, d := range p.Defs {
			is := made[d.Name][0]
			var was, now []api.Bind
			for e := d.Body; e.Kind == api.ExprLam; e = e.Args[0] {
				was = append(was, e.Binds...)
			}
			for e := is.Body; e.Kind == api.ExprLam; e = e.Args[0] {
				now = append(now, e.Binds...)
			}
			if is.Name != d.Name || len(is.Params) > 0 || !sameType(is.Type, d.Type) || fmt.Sprint(was) != fmt.Sprint(now) {
				t.Fatalf("%s has become %v", d.Name, is)
			}
		}
		if fmt.Sprint(p.Datas) != fmt.Sprint(q.Datas) {
			t.Fatalf("data types %v have become %v", p.Datas, q.Datas)
		}
	}
	many(t, 5, 150, func(k *maker) { check(k.Program) })
	crowds(t, 6, 100, check)
}

// TestBeside: P13.5: which definitions stand beside one, and where, does not matter but to the names of its functions, where they are passed over.
func TestBeside(t *testing.T) {
	t.Parallel()
	renamed := 0
	check := func(p api.Program, r *rand.Rand) {
		q, code := lift.Lift(p)
		if code != api.OK {
			return
		}
		want := pieces(t, p, q)
		// in another order, with others beside them
		full := api.Program{Datas: p.Datas, Defs: slices.Clone(p.Defs)}
		for i := range r.Intn(20) {
			full.Defs = append(full.Defs, api.Def{Name: fmt.Sprint("other$", i), Type: typ("(Int -> Int)"), Body: app(lambda(api.Bind{Name: "f", Type: typ("(Int -> Int)")}, api.Expr{Kind: api.ExprVar, Name: "f"}), lambda(api.Bind{Name: "x", Type: integer}, number(i)))})
		}
		r.Shuffle(len(full.Defs), func(i, j int) { full.Defs[i], full.Defs[j] = full.Defs[j], full.Defs[i] })
		got := pieces(t, full, lifted(t, full))
		for _, d := range p.Defs {
			if fmt.Sprint(got[d.Name]) != fmt.Sprint(want[d.Name]) {
				t.Fatalf("%s in %s becomes %v, want %v", d.Name, printed(full), got[d.Name], want[d.Name])
			}
			// the others are no longer what they were
			one := alone(p, d.Name)
			if got := pieces(t, one, lifted(t, one)); fmt.Sprint(got[d.Name]) != fmt.Sprint(want[d.Name]) {
				t.Fatalf("%s alone becomes %v, want %v", d.Name, got[d.Name], want[d.Name])
			}
		}
		// with names that are passed over
		taken := api.Program{Datas: p.Datas, Defs: slices.Clone(p.Defs)}
		for i := range 40 {
			name := fmt.Sprint("m0$", 1+i)
			if r.Intn(3) == 0 && !slices.ContainsFunc(p.Defs, func(d api.Def) bool { return d.Name == name }) {
				taken.Defs = slices.Insert(taken.Defs, r.Intn(len(taken.Defs)+1), api.Def{Name: name, Type: integer, Body: number(i)})
			}
		}
		got = pieces(t, taken, lifted(t, taken))
		for _, d := range p.Defs {
			if fmt.Sprint(got[d.Name]) != fmt.Sprint(want[d.Name]) {
				renamed++
			}
			if turned := withNames(got[d.Name], want[d.Name]); fmt.Sprint(turned) != fmt.Sprint(want[d.Name]) {
				t.Fatalf("%s beside %s becomes %v, want %v", d.Name, names(taken), turned, want[d.Name])
			}
		}
	}
	many(t, 7, 40, func(k *maker) { check(k.Program, k.Rand) })
	r := rand.New(rand.NewSource(8))
	crowds(t, 8, 40, func(p api.Program) { check(p, r) })
	if renamed < 25 {
		t.Error("few names are passed over:", renamed)
	}
}

// withNames gives definitions the names that others have in the same places, wherever they are spoken of.
func withNames(l, others []api.Def) []api.Def {
	new := map[string]string{}
	for i := range min(len(l), len(others)) {
		new[l[i].Name] = others[i].Name
	}
	var turned func(e api.Expr) api.Expr
	turned = func(e api.Expr) api.Expr {
		if name, ok := new[e.Name]; ok && e.Kind == api.ExprGlobal {
			e.Name = name
		}
		e.Args, e.Binds, e.Alts = slices.Clone(e.Args), slices.Clone(e.Binds), slices.Clone(e.Alts)
		for i, x := range e.Args {
			e.Args[i] = turned(x)
		}
		for i, b := range e.Binds {
			e.Binds[i].Value = turned(b.Value)
		}
		for i, a := range e.Alts {
			e.Alts[i].Body = turned(a.Body)
		}
		return e
	}
	l = slices.Clone(l)
	for i, d := range l {
		if name, ok := new[d.Name]; ok {
			l[i].Name = name
		}
		l[i].Body = turned(d.Body)
	}
	return l
}
