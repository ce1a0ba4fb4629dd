package mono_test

import (
	"slices"
	"strings"
	"testing"

	"sloth/api"
	"sloth/core"
	"sloth/mono"
)

// TestPlain: P12.1, P12.2: programs made at random against the second form, from all their definitions on.
func TestPlain(t *testing.T) {
	t.Parallel()
	met, most := map[api.Errno]int{}, 0
	many(t, 1, 150, func(k *maker) {
		for _, entry := range k.allNames() {
			want, code := plainMono(k.Program, entry)
			got, gotCode := mono.Mono(k.Program, entry)
			if code != gotCode || !alike(got, want) {
				t.Fatalf("%s of\n%s\ncomes to %v\n%s\nwant %v\n%s", entry, printed(k.Program), gotCode, printed(got), code, printed(want))
			}
			met[code]++
			most = max(most, len(got.Defs))
		}
	})
	t.Log(met, most)
	if met[api.OK] < 2000 || met[api.ErrBig] < 5 || most < 50 {
		t.Error("few that are made, few that are not, or few instances:", met, most)
	}
}

// TestAgain: P12.4: Mono of the answer, from the entry's instance on, is the answer.
func TestAgain(t *testing.T) {
	t.Parallel()
	many(t, 2, 120, func(k *maker) {
		for _, entry := range k.allNames() {
			q, code := mono.Mono(k.Program, entry)
			if code != api.OK {
				continue
			}
			made(t, k.Program, entry) // right, without parameters and types
			if again := made(t, q, q.Defs[0].Name); !alike(again, q) {
				t.Fatalf("%s of\n%s\ncomes to\n%s\nand that to\n%s", entry, printed(k.Program), printed(q), printed(again))
			}
			params := k.Defs[slices.Index(k.allNames(), entry)].Params
			if want := (plainInstance{entry, slices.Repeat([]api.Type{typ("Unit")}, len(params))}).title(); q.Defs[0].Name != want {
				t.Fatalf("the first is %s, want %s", q.Defs[0].Name, want)
			}
		}
	})
	// at the limits too
	text := numbers(999, def("d#", `(global "d$")`)) + def("d999", "1")
	if q := made(t, read(t, text), "d0"); !alike(made(t, q, "d0"), q) {
		t.Error("a row of MaxCopies")
	}
	name := strings.Repeat("x", api.MaxName-len("{Unit}"))
	q := made(t, read(t, `(def "`+name+`" (a) a (global "`+name+`" a))`), name)
	if again := made(t, q, name+"{Unit}"); !alike(again, q) {
		t.Error("a name of MaxName")
	}
}

// needed tells the names of all definitions that one needs, on whatever way.
func needed(p api.Program, entry string) []string {
	l := []string{entry}
	for i := 0; i < len(l); i++ {
		d := p.Defs[slices.IndexFunc(p.Defs, func(d api.Def) bool { return d.Name == l[i] })]
		for _, in := range needsOf(d.Body) {
			if !slices.Contains(l, in.name) {
				l = append(l, in.name)
			}
		}
	}
	return l
}

// TestNeeded: P12.6: definitions that the entry does not need are not there, and say nothing, whatever they are, and wherever the others stand.
func TestNeeded(t *testing.T) {
	t.Parallel()
	more := read(t, `(def "id{Int}" () Int (global "more")) (def "map{Int,Int}" (a) Int (global "map{Int,Int}" (List a))) (def "sum{Int}" () Int 1)
		(def "more" () Int (seq (global "map{Int,Int}" Int) (op + (global "sum{Int}") (global "id{Int}"))))`).Defs
	for i := range 300 {
		more = append(more, api.Def{Name: strings.Repeat("m", i+10), Type: integer, Body: api.Expr{Kind: api.ExprGlobal, Name: "more"}})
	}
	many(t, 3, 80, func(k *maker) {
		for _, entry := range append(k.entries(), "fold", "leaves", "f0") {
			want, code := mono.Mono(k.Program, entry)
			names := needed(k.Program, entry)
			for _, d := range want.Defs {
				if whose, _, _ := strings.Cut(d.Name, "{"); !slices.Contains(names, whose) {
					t.Fatalf("%s does not need %s: %s", entry, d.Name, printed(k.Program))
				}
			}
			some := slices.Clone(names)
			for _, name := range k.allNames() {
				if k.Intn(8) == 0 {
					some = append(some, needed(k.Program, name)...)
				}
			}
			only, fewer := keep(k.Program, names), keep(k.Program, some)
			full := api.Program{Datas: k.Datas, Defs: slices.Concat(more, k.Defs)}
			slices.Reverse(fewer.Defs)
			k.Shuffle(len(full.Defs), func(i, j int) { full.Defs[i], full.Defs[j] = full.Defs[j], full.Defs[i] })
			for _, p := range []api.Program{fewer, only, full} {
				if code := core.Check(p); code != api.OK {
					t.Fatal("the test is wrong:", code)
				}
				if got, gotCode := mono.Mono(p, entry); gotCode != code || !alike(got, want) {
					t.Fatalf("%s of\n%s\ncomes to %v\n%s\nbut of\n%s\nto %v\n%s", entry, printed(k.Program), code, printed(want), printed(p), gotCode, printed(got))
				}
			}
		}
	})
	// with what could not be made, if it were needed: a type that grows, two of one name, too many, too great a Size
	bad := `(def "nest" (a) Int (global "nest" (List a)))` + id + def("id{Int}", "1") + def("two", `(op + (app (global "id" Int) 1) (global "id{Int}"))`) + numbers(1200, def("d#", `(global "d$")`)) + def("d1200", "1") +
		`(def "grow" (a) Int ` + sum(times(300, `(seq (fail 1 a) 1)`)...) + `)` + def("great", `(global "grow" `+lists(500)+`)`)
	for _, entry := range []string{"nest", "two", "d0", "great"} {
		if _, code := mono.Mono(read(t, bad), entry); code == api.OK {
			t.Error(entry, "can be made")
		}
	}
	checkMade(t, bad+def("main", `(app (global "id" Int) (global "d1200"))`), "main", def("main", `(app (global "id{Int}") (global "d1200"))`)+`(def "id{Int}" () (Int -> Int) (lam "x" Int "x"))`+def("d1200", "1"))
}

// keep is a program of which only these definitions are left.
func keep(p api.Program, names []string) api.Program {
	q := api.Program{Datas: p.Datas}
	for _, d := range p.Defs {
		if slices.Contains(names, d.Name) {
			q.Defs = append(q.Defs, d)
		}
	}
	return q
}
