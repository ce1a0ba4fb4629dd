package scope_test

import (
	"math/rand"
	"reflect"
	"slices"
	"sort"
	"strings"
	"testing"

	"sloth/api"
	"sloth/scope"
	"sloth/syntax"
)

// same tells whether two things are the same in all; a nil list and an empty one are (W5).
func same(a, b any) bool { return sameValue(reflect.ValueOf(a), reflect.ValueOf(b)) }

func sameValue(a, b reflect.Value) bool {
	switch a.Kind() {
	case reflect.Struct:
		for i := range a.NumField() {
			if !sameValue(a.Field(i), b.Field(i)) {
				return false
			}
		}
		return true
	case reflect.Slice:
		if a.Len() != b.Len() {
			return false
		}
		for i := range a.Len() {
			if !sameValue(a.Index(i), b.Index(i)) {
				return false
			}
		}
		return true
	}
	return a.Equal(b)
}

// sources hands on many sources, with faults and without.
func sources(t *testing.T, seed int64, times int, do func(k *maker, l []string)) {
	t.Helper()
	k := &maker{Rand: rand.New(rand.NewSource(seed))}
	for done := 0; done < times; {
		k.risk = pick(k.Rand, 1000000, 1000000, 200, 60)
		l := k.world()
		if k.Intn(2) == 0 {
			for range 1 + k.Intn(2) {
				k.spoil(&l[k.Intn(len(l))])
			}
		}
		if texts := k.written(l); texts != nil {
			do(k, texts)
			done++
		}
		if t.Failed() {
			return
		}
	}
}

// TestPlain: P3.1 to P3.4: Bind answers as its second form does.
func TestPlain(t *testing.T) {
	for seed := range int64(4) {
		t.Run("", func(t *testing.T) {
			t.Parallel()
			checkPlain(t, 10+seed)
		})
	}
}

func checkPlain(t *testing.T, seed int64) {
	met := map[api.Errno]int{}
	sources(t, seed, 3000, func(k *maker, l []string) {
		modules, fixes, err := scope.Bind(l)
		want, wantFixes, fault := plainBind(l)
		got, ok := api.Seen(err)
		if fault == nil {
			fault = &api.Fault{}
		}
		met[fault.Code]++
		if !ok || got != *fault || !same(modules, want) || !same(fixes, wantFixes) {
			t.Errorf("Bind(%s): %v, %s\nwant %v, %s", short(l), err, told(modules), fault, told(want))
		}
	})
	for _, code := range []api.Errno{api.OK, api.ErrBig, api.ErrScopeModule, api.ErrScopeCycle, api.ErrScopeTwice, api.ErrScopeName, api.ErrScopeTwo, api.ErrScopeArity, api.ErrScopeType, api.ErrScopeFix} {
		if met[code] < 4 {
			t.Errorf("%v is met %d times", code, met[code])
		}
	}
	t.Log(met)
}

// TestNamesMean: P3.6.
func TestNamesMean(t *testing.T) {
	t.Parallel()
	good := 0
	sources(t, 2, 2000, func(k *maker, l []string) {
		modules, fixes, err := scope.Bind(l)
		if err != nil {
			return
		}
		good++
		w := newWalk(t, modules)
		for _, m := range modules {
			w.module(m)
		}
		for _, f := range fixes {
			w.has(w.values, f.Op)
		}
	})
	if good < 500 {
		t.Error("too few without a fault:", good)
	}
}

// walk goes through an answer, and looks for each name among what is built in and what its modules give.
type walk struct {
	*testing.T
	types, cons, values map[string]bool
}

func newWalk(t *testing.T, l []api.Module) *walk {
	set := func(s string) map[string]bool {
		out := map[string]bool{}
		for _, name := range strings.Fields(s) {
			out[name] = true
		}
		return out
	}
	w := &walk{t, set("Bool List Unit Pair Triple"), set("False True Cons Nil Unit Pair Triple"), set(strings.Join(builtValues, " "))}
	give := func(to map[string]bool, name string) {
		if to[name] {
			t.Errorf("%s is given twice", name)
		}
		to[name] = true
	}
	for _, m := range l {
		for _, d := range m.Datas {
			give(w.types, d.Name)
			for _, c := range d.Cons {
				give(w.cons, c.Name)
			}
		}
		for i, c := range m.Clauses {
			if i == 0 || m.Clauses[i-1].Name != c.Name {
				give(w.values, c.Name)
			}
		}
	}
	return w
}

func (w *walk) has(names map[string]bool, name string) {
	if !names[name] {
		w.Errorf("%s means nothing", name)
	}
}

func (w *walk) module(m api.Module) {
	for _, d := range m.Datas {
		for _, c := range d.Cons {
			for _, f := range c.Fields {
				w.typ(f)
			}
		}
	}
	for _, f := range m.Fixes {
		w.has(w.values, f.Op)
	}
	for _, s := range m.Sigs {
		w.has(w.values, s.Name)
		w.typ(s.Type)
	}
	for _, c := range m.Clauses {
		w.clause(nil, c)
	}
}

func (w *walk) typ(t api.Type) {
	if t.Kind == api.TyData {
		w.has(w.types, t.Name)
	} else if (t.Kind == api.TyInt || t.Kind == api.TyFun) && t.Name != "" {
		w.Errorf("a type with a name: %v", t)
	}
	for _, a := range t.Args {
		w.typ(a)
	}
}

func (w *walk) pat(p api.Pat) (names []string) {
	if p.Kind == api.PatVar {
		return []string{p.Name}
	}
	if p.Kind == api.PatCon {
		w.has(w.cons, p.Name)
	}
	for _, a := range p.Args {
		names = append(names, w.pat(a)...)
	}
	return names
}

func (w *walk) clause(locals []string, c api.Clause) {
	for _, p := range c.Pats {
		locals = slices.Concat(locals, w.pat(p))
	}
	w.term(locals, c.Body)
}

func (w *walk) term(locals []string, t api.Term) {
	switch {
	case t.Kind == api.TermVar && !slices.Contains(locals, t.Name):
		w.has(w.values, t.Name)
	case t.Kind == api.TermCon:
		w.has(w.cons, t.Name)
	}
	for _, p := range t.Pats {
		locals = slices.Concat(locals, w.pat(p))
	}
	for _, c := range t.Clauses {
		locals = slices.Concat(locals, []string{c.Name})
	}
	for _, c := range t.Clauses {
		w.clause(locals, c)
	}
	for _, a := range t.Args {
		w.term(locals, a)
	}
	for _, b := range t.Alts {
		w.clause(locals, api.Clause{Pats: []api.Pat{b.Pat}, Body: b.Body})
	}
}

// anyOrder tells an answer so that neither Text nor an order counts.
func anyOrder(modules []api.Module, fixes []api.Fixity, err error) string {
	if err != nil {
		return "a fault"
	}
	var l []string
	for _, m := range modules {
		m.Text = 0
		l = append(l, toldModule(m))
	}
	for _, f := range fixes {
		l = append(l, toldFix(f))
	}
	sort.Strings(l)
	return strings.Join(l, "\n")
}

// TestAnyOrder: P3.7.
func TestAnyOrder(t *testing.T) {
	t.Parallel()
	sources(t, 3, 1500, func(k *maker, l []string) {
		want := anyOrder(scope.Bind(l))
		for range 3 {
			k.Shuffle(len(l), func(i, j int) { l[i], l[j] = l[j], l[i] })
			modules, fixes, err := scope.Bind(l)
			if got := anyOrder(modules, fixes, err); got != want {
				t.Errorf("Bind(%s): %s\nin another order %s", short(l), got, want)
			}
			for _, m := range modules {
				if !strings.HasPrefix(l[m.Text], "module "+m.Name+";") {
					t.Errorf("Bind(%s): Text %d of %s", short(l), m.Text, m.Name)
				}
			}
		}
	})
}

// TestPrinted: P3.8.
func TestPrinted(t *testing.T) {
	t.Parallel()
	sources(t, 4, 1500, func(k *maker, l []string) {
		var printed []string
		for _, text := range l {
			m, err := syntax.Parse(text)
			text, code := syntax.Print(m)
			if err != nil || code != api.OK {
				t.Fatal(err, code)
			}
			printed = append(printed, text)
		}
		modules, fixes, err := scope.Bind(l)
		modules2, fixes2, err2 := scope.Bind(printed)
		fault, _ := api.Seen(err)
		fault2, _ := api.Seen(err2)
		if fault != fault2 || !same(modules, modules2) || !same(fixes, fixes2) {
			t.Errorf("Bind(%s): %v %v; printed: %v %v", short(l), told(modules), err, told(modules2), err2)
		}
	})
}

// TestMemory: P3.5 and W6: what is handed in stays; no list of an answer has room that another one has too, and no two answers share any.
func TestMemory(t *testing.T) {
	t.Parallel()
	sources(t, 5, 400, func(k *maker, l []string) {
		given := slices.Grow(slices.Clone(l), 3)
		spare := given[:cap(given)]
		spare[len(l)] = "module Spare;"
		one, oneFixes, err := scope.Bind(given)
		other, otherFixes, _ := scope.Bind(given)
		want, wantFixes, _ := plainBind(l)
		if !slices.Equal(given, l) || spare[len(l)] != "module Spare;" {
			t.Errorf("Bind changed %s", short(l))
		}
		if err != nil {
			return
		}
		all := struct {
			Modules []api.Module
			Fixes   []api.Fixity
		}{one, oneFixes}
		spoilSpare(reflect.ValueOf(all))
		if !same(one, want) || !same(oneFixes, wantFixes) {
			t.Errorf("Bind(%s): lists share their spare room", short(l))
		}
		spoilOne(t, reflect.ValueOf(all))
		if !same(other, want) || !same(otherFixes, wantFixes) {
			t.Errorf("Bind(%s): two answers share memory", short(l))
		}
	})
}

// lists hands on each list within something, outer ones first.
func lists(v reflect.Value, do func(reflect.Value)) {
	switch v.Kind() {
	case reflect.Struct:
		for i := range v.NumField() {
			lists(v.Field(i), do)
		}
	case reflect.Slice:
		do(v)
		for i := range v.Len() {
			lists(v.Index(i), do)
		}
	}
}

// garbage is something that no answer holds.
func garbage(v reflect.Value) {
	switch v.Kind() {
	case reflect.Struct:
		for i := range v.NumField() {
			garbage(v.Field(i))
		}
	case reflect.String:
		v.SetString("garbage")
	case reflect.Int:
		v.SetInt(-7)
	}
}

func spoilSpare(v reflect.Value) {
	lists(v, func(l reflect.Value) {
		for i := l.Len(); i < l.Cap(); i++ {
			garbage(l.Slice(0, l.Cap()).Index(i))
		}
	})
}

// spoilOne overwrites what the lists hold, inner ones first, since the outer ones lead to them. No place is met twice.
func spoilOne(t *testing.T, v reflect.Value) {
	var all []reflect.Value
	lists(v, func(l reflect.Value) { all = append(all, l) })
	places := map[uintptr]bool{}
	for i := len(all) - 1; i >= 0; i-- {
		for j := range all[i].Len() {
			at := all[i].Index(j).Addr().Pointer()
			if places[at] {
				t.Error("two lists share memory")
			}
			places[at] = true
			garbage(all[i].Index(j))
		}
	}
}
