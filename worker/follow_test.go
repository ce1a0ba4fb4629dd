package worker_test

import (
	"fmt"
	"maps"
	"slices"
	"testing"

	"sloth/api"
	"sloth/core"
	"sloth/worker"
)

// seen counts what was met, so that a test says when it met too little.
type seen struct {
	needed, stayed, without int
	kinds                   map[int]int // of the needed arguments
	types                   map[string]int
}

func newSeen() *seen { return &seen{kinds: map[int]int{}, types: map[string]int{}} }

func (s *seen) note(k *plain) {
	s.needed += len(k.needed)
	s.stayed += k.stayed
	if len(k.needed) == 0 {
		s.without++
	}
	for kind, n := range k.kinds {
		s.kinds[kind] += n
	}
	for _, t := range k.needed {
		s.types[t.Name]++
	}
}

// checkPlain: a program comes to what the second form says: by core.Same, in size, and in the kinds of its expressions (P16.1, P16.2).
func (s *seen) checkPlain(t *testing.T, p api.Program) {
	t.Helper()
	k := newPlain(p)
	want := k.split()
	got := split(t, p)
	if !same(t, got, want) {
		t.Fatalf("%s\ncomes to\n%s\nwant\n%s", printed(p), printed(got), printed(want))
	}
	if core.Size(got) != core.Size(p)+k.growth() {
		t.Fatalf("%s\ncomes to\n%s\nof %d nodes, want %d", printed(p), printed(got), core.Size(got), core.Size(p)+k.growth())
	}
	count := kinds(p)
	if n := len(k.needed); n > 0 {
		count[api.ExprHard] += n
		count[api.ExprVar] += n
	}
	if !maps.Equal(count, kinds(got)) {
		t.Fatalf("%s\ncomes to\n%s\nwith the kinds %v, want %v", printed(p), printed(got), kinds(got), count)
	}
	if len(k.needed) == 0 && !alike(got, p) { // P16.5
		t.Fatalf("%s\nneeds nothing, and comes to\n%s", printed(p), printed(got))
	}
	s.note(k)
}

// TestPlain: P16.1, P16.3, P16.5: programs made at random against the second form.
func TestPlain(t *testing.T) {
	t.Parallel()
	for seed := range int64(4) {
		t.Run(fmt.Sprint(seed), func(t *testing.T) {
			t.Parallel()
			s := newSeen()
			many(t, seed, 250, func(k *maker) { s.checkPlain(t, k.Program) })
			t.Log(*s)
			for _, kind := range []int{api.ExprApp, api.ExprLet, api.ExprCase, api.ExprOp, api.ExprSeq, api.ExprHard, api.ExprFail} {
				if s.kinds[kind] < 8 {
					t.Error("too seldom: the kind", kind)
				}
			}
			for _, name := range []string{"", "Bool", "List", "Pair", "M.E"} {
				if s.types[name] < 15 {
					t.Error("too seldom: the type", name)
				}
			}
			if s.needed < 700 || s.stayed < 500 || s.without < 20 {
				t.Error("too seldom:", *s)
			}
		})
	}
}

// locals tells all names that are bound in an expression, in the order in which they are met.
func locals(e api.Expr) []string {
	var l []string
	for _, b := range e.Binds {
		l = append(l, b.Name)
	}
	for _, a := range e.Alts {
		l = append(l, a.Vars...)
	}
	for _, x := range parts(e) {
		l = append(l, locals(x)...)
	}
	return l
}

// renamed is an expression whose locals are called otherwise.
func renamed(e api.Expr, names map[string]string) api.Expr {
	if e.Kind == api.ExprVar {
		e.Name = names[e.Name]
	}
	e.Args, e.Binds, e.Alts = slices.Clone(e.Args), slices.Clone(e.Binds), slices.Clone(e.Alts)
	for i, a := range e.Args {
		e.Args[i] = renamed(a, names)
	}
	for i, b := range e.Binds {
		value := b.Value
		if e.Kind != api.ExprLam {
			value = renamed(value, names)
		}
		e.Binds[i] = api.Bind{Name: names[b.Name], Type: b.Type, Value: value}
	}
	for i, a := range e.Alts {
		e.Alts[i].Vars = nil
		for _, name := range a.Vars {
			e.Alts[i].Vars = append(e.Alts[i].Vars, names[name])
		}
		e.Alts[i].Body = renamed(a.Body, names)
	}
	return e
}

// TestNewNames: P16.1: a new name is bound nowhere else in its definition, whatever is bound there: the locals of a program are called as Split called its own ones, again and again.
func TestNewNames(t *testing.T) {
	t.Parallel()
	met := 0
	many(t, 7, 120, func(k *maker) {
		p := k.Program
		for range 4 {
			q := split(t, p)
			next := p
			next.Defs = slices.Clone(p.Defs)
			for i, d := range p.Defs {
				was := locals(d.Body)
				var made []string
				for _, name := range locals(q.Defs[i].Body) {
					if !slices.Contains(was, name) {
						made = append(made, name)
					}
				}
				names := map[string]string{}
				for j, name := range was {
					if names[name] = name; j < len(made) {
						names[name] = made[j]
						met++
					}
				}
				next.Defs[i].Body = renamed(d.Body, names)
			}
			if !same(t, p, next) {
				t.Fatal("the test is wrong")
			}
			if !same(t, split(t, next), q) {
				t.Fatalf("%s\ncomes to\n%s\nbut\n%s\nto\n%s", printed(p), printed(q), printed(next), printed(split(t, next)))
			}
			p = next
		}
	})
	if met < 1000 {
		t.Error("too few:", met)
	}
}

// TestAgain: the answer is a program as others are, which may be handed in again; and so on.
func TestAgain(t *testing.T) {
	t.Parallel()
	s := newSeen()
	many(t, 8, 150, func(k *maker) {
		p := k.Program
		for range 3 {
			s.checkPlain(t, p)
			p = split(t, p)
		}
	})
	if s.without < 100 {
		t.Error("too seldom:", *s)
	}
}

// TestOrder: what becomes of a definition does not hang on where it stands, where all are Known.
func TestOrder(t *testing.T) {
	t.Parallel()
	many(t, 9, 150, func(k *maker) {
		for _, s := range newPlain(k.Program).signatures {
			if !s.Known {
				return
			}
		}
		p := k.Program
		p.Defs = slices.Clone(p.Defs)
		order := k.Perm(len(p.Defs))
		for i, j := range order {
			p.Defs[i] = k.Defs[j]
		}
		q, code := worker.Split(p)
		if code != api.OK {
			t.Fatal(code)
		}
		want := split(t, k.Program)
		for i, j := range order {
			if fmt.Sprint(q.Defs[i]) != fmt.Sprint(want.Defs[j]) {
				t.Fatalf("%s\nin another order\n%s", printed(want), printed(q))
			}
		}
	})
}
