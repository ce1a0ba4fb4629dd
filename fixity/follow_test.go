package fixity_test

import (
	"fmt"
	"math/rand"
	"slices"
	"strings"
	"testing"

	"sloth/api"
	"sloth/fixity"
	"sloth/scope"
)

// TestPlain: P4.1 and P4.2: Resolve answers as its second form does.
func TestPlain(t *testing.T) {
	for seed := range int64(4) {
		t.Run("", func(t *testing.T) {
			t.Parallel()
			checkPlain(t, 10+seed)
		})
	}
}

func checkPlain(t *testing.T, seed int64) {
	met := map[api.Errno]int{}
	sources(t, seed, 1500, func(texts []string) {
		modules, err := fixity.Resolve(texts)
		want, fault := plainResolve(texts)
		if fault == nil {
			fault = &api.Fault{}
		}
		met[fault.Code]++
		got, ok := api.Seen(err)
		if !ok || (err == nil) != (fault.Code == api.OK) || got != *fault || !same(modules, want) {
			t.Errorf("Resolve(%s): %v, %+v\nwant %v, %+v", short(texts), err, modules, fault, want)
		}
	})
	for _, code := range []api.Errno{api.OK, api.ErrFixMix, api.ErrFixSection, api.ErrNest} {
		if met[code] < 20 {
			t.Errorf("%v is met %d times", code, met[code])
		}
	}
	t.Log(met)
}

// TestKinds: P4.3.
func TestKinds(t *testing.T) {
	t.Parallel()
	rights := 0
	var look func(api.Term)
	look = func(x api.Term) {
		switch {
		case x.Kind == api.TermFlat || x.Kind == api.TermLeft:
			t.Errorf("the kind %d stands in an answer", x.Kind)
		case x.Kind == api.TermRight && len(x.Args) != 2:
			t.Errorf("a TermRight with %d Args", len(x.Args))
		case x.Kind == api.TermRight:
			rights++
		}
		for _, c := range x.Clauses {
			look(c.Body)
		}
		for _, a := range x.Args {
			look(a)
		}
		for _, b := range x.Alts {
			look(b.Body)
		}
	}
	sources(t, 2, 5000, func(texts []string) {
		modules, err := fixity.Resolve(texts)
		for _, m := range modules {
			for _, c := range m.Clauses {
				look(c.Body)
			}
		}
		if t.Failed() {
			t.Errorf("Resolve(%s): %v", short(texts), err)
		}
	})
	if rights < 300 {
		t.Error("too few right sections:", rights)
	}
}

// TestWeakerBetween: P4.4.
func TestWeakerBetween(t *testing.T) {
	t.Parallel()
	const within = "<+> +> ? `f`"
	good := 0
	r := rand.New(rand.NewSource(3))
	for range 4000 {
		k := newMaker(r)
		k.simple = true
		k.levels = []int{5, 6, 7, 8, 9}
		one, other := k.row(1, strings.Fields(within+" + : %")), k.row(1, strings.Fields(within+" * - :"))
		text := fmt.Sprintf("module M; %s (&) a b = a; %s %d &; x a b c = %s; y a b c = %s; z a b c = %s & %s;",
			k.defined(within), pick(k.Rand, "infixl", "infixr", "infix"), k.Intn(5), one, other, one, other)
		l, err := fixity.Resolve([]string{text})
		if err != nil {
			continue
		}
		good++
		c := l[0].Clauses[len(l[0].Clauses)-3:]
		want := call(call(api.Term{Kind: api.TermVar, Name: "M.&"}, c[0].Body), c[1].Body)
		if !same(c[2].Body, want) {
			t.Errorf("Resolve(%s): %s\nwant %s", text, told(c[2].Body), told(want))
		}
	}
	if good < 1000 {
		t.Error("too few without a fault:", good)
	}
}

// bracketed writes a term with round brackets about the operands of each row's root.
func bracketed(p *plain, t api.Term) string {
	switch t.Kind {
	case api.TermFlat:
		return bracketedRow(p, t.Args)
	case api.TermLeft:
		last := len(t.Args) - 1
		return "((" + bracketedRow(p, t.Args[:last]) + ") " + operator(t.Args[last]) + ")"
	case api.TermRight:
		return "(" + operator(t.Args[0]) + " (" + bracketedRow(p, t.Args[1:]) + "))"
	case api.TermApp:
		return "(" + bracketed(p, t.Args[0]) + ") (" + bracketed(p, t.Args[1]) + ")"
	case api.TermInt:
		return fmt.Sprint(t.Num)
	}
	if t.Name == "Nil" {
		return "[]"
	}
	return t.Name
}

func bracketedRow(p *plain, row []api.Term) string {
	if len(row) == 1 {
		return bracketed(p, row[0])
	}
	root := p.root(row)
	return "(" + bracketedRow(p, row[:root]) + ") " + operator(row[root]) + " (" + bracketedRow(p, row[root+1:]) + ")"
}

// operator writes an operator of Bind's answer as it stood in the text.
func operator(t api.Term) string {
	name := strings.TrimPrefix(t.Name, "M.")
	switch {
	case name == "Cons":
		return ":"
	case name[0] >= 'a' && name[0] <= 'z':
		return "`" + name + "`"
	}
	return name
}

// TestBracketed: P4.5.
func TestBracketed(t *testing.T) {
	t.Parallel()
	const ops = "<+> +> ? `f`"
	good := 0
	r := rand.New(rand.NewSource(4))
	for range 6000 {
		k := newMaker(r)
		k.simple = true
		head := "module M; " + k.defined(ops) + " x a b c = "
		text := head + k.row(2, strings.Fields(ops+" + - * % == : `seq` `a`")) + ";"
		got, err := fixity.Resolve([]string{text})
		if err != nil {
			continue
		}
		good++
		bound, fixes, err := scope.Bind([]string{text})
		if err != nil {
			t.Fatal(err)
		}
		again := head + bracketed(&plain{fixes: fixes}, bound[0].Clauses[len(bound[0].Clauses)-1].Body) + ";"
		other, err := fixity.Resolve([]string{again})
		if err != nil || !same(got, other) {
			t.Fatalf("Resolve(%s): %+v\nResolve(%s): %+v, %v", text, got, again, other, err)
		}
	}
	if good < 1000 {
		t.Error("too few without a fault:", good)
	}
}

// rooms notes the places of all room that lists have, and tells of one that two lists have.
type rooms struct {
	*testing.T
	places map[any]bool
}

func room[T any](r rooms, l []T) {
	for i := range cap(l) {
		at := &l[:cap(l)][i]
		if r.places[at] {
			r.Error("two lists share memory")
		}
		r.places[at] = true
	}
}

func (r rooms) pats(l []api.Pat) {
	room(r, l)
	for _, p := range l {
		r.pats(p.Args)
	}
}

func (r rooms) clauses(l []api.Clause) {
	room(r, l)
	for _, c := range l {
		r.pats(c.Pats)
		r.term(c.Body)
	}
}

func (r rooms) term(t api.Term) {
	room(r, t.Args)
	for _, a := range t.Args {
		r.term(a)
	}
	r.pats(t.Pats)
	r.clauses(t.Clauses)
	room(r, t.Alts)
	for _, b := range t.Alts {
		r.pats(b.Pat.Args)
		r.term(b.Body)
	}
}

// TestMemory: W2 and W6: what is handed in stays; no two lists of an answer, nor of two answers, share any room; both answers are the same.
func TestMemory(t *testing.T) {
	t.Parallel()
	good := 0
	sources(t, 5, 1500, func(texts []string) {
		given := append(slices.Clone(texts), "module Spare;")[:len(texts)]
		one, err := fixity.Resolve(given)
		other, err2 := fixity.Resolve(given)
		if !slices.Equal(given, texts) || given[:len(texts)+1][len(texts)] != "module Spare;" {
			t.Errorf("Resolve changed %s", short(texts))
		}
		if fmt.Sprint(err) != fmt.Sprint(err2) || !same(one, other) {
			t.Errorf("Resolve(%s): %v %+v, and then %v %+v", short(texts), err, one, err2, other)
		}
		r := rooms{t, map[any]bool{}}
		for _, l := range [][]api.Module{one, other} {
			room(r, l)
			for _, m := range l {
				r.clauses(m.Clauses)
				room(r, m.Fixes)
				good++
			}
		}
	})
	if good < 500 {
		t.Error("too few without a fault:", good)
	}
}

// TestAnyBytes: W1: whatever the texts are, there is a fault of a known number, or modules.
func TestAnyBytes(t *testing.T) {
	t.Parallel()
	r := rand.New(rand.NewSource(6))
	sources(t, 6, 3000, func(texts []string) {
		for i, text := range texts {
			b := []byte(text)
			for range r.Intn(3) {
				at := r.Intn(len(b))
				if r.Intn(2) == 0 {
					b[at] = pick(r, []byte("()[]{};=+:`\\ ax")...)
				} else {
					b = slices.Delete(b, at, min(at+r.Intn(8), len(b)))
				}
			}
			texts[i] = string(b)
		}
		bound, _, wrong := scope.Bind(texts)
		modules, err := fixity.Resolve(texts)
		fault, ok := api.Seen(err)
		known := fault.Code == api.OK && len(modules) == len(bound) || fault.Code == api.ErrFixMix || fault.Code == api.ErrFixSection || fault.Code == api.ErrNest
		if wrong != nil {
			want, _ := api.Seen(wrong)
			known = fault == want
		}
		if !ok || !known || err != nil && len(modules) != 0 {
			t.Errorf("Resolve(%s): %v; Bind: %v", short(texts), err, wrong)
		}
	})
}
