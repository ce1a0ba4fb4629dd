package elab_test

import (
	"fmt"
	"math/rand"
	"reflect"
	"slices"
	"strings"
	"sync"
	"testing"

	"sloth/api"
	"sloth/elab"
	"sloth/lex"
	"sloth/syntax"
)

// TestPlain: P9.1 to P9.5 and P9.7: Elab answers as its second form does.
func TestPlain(t *testing.T) {
	for seed := range int64(4) {
		t.Run("", func(t *testing.T) {
			t.Parallel()
			met, all := map[api.Errno]int{}, plainCounts{}
			sources(t, 10+seed, 250, func(k *maker, texts []string) {
				code, counts := checkPlain(t, texts)
				met[code]++
				all.add(counts)
			})
			t.Log(met, all)
			if met[api.OK] < 200 || all.shared < 40 || all.with < 25 || all.idle < 300 || all.rings < 8 || all.units < 1000 {
				t.Error("too few of something")
			}
		})
	}
}

// broadRow writes a row of patterns: of numbers, truths, pairs and lists of these.
type broadRow struct {
	*rand.Rand
	wild int
	used []string // what is made of its variables
}

func (b *broadRow) local(kind int) string {
	name := fmt.Sprint("v", len(b.used))
	if kind == 0 {
		b.used = append(b.used, name)
	} else {
		b.used = append(b.used, "(case "+name+" of {_ -> 1})")
	}
	return name
}

func (b *broadRow) pat(kind int) string {
	switch {
	case b.Intn(8) < b.wild && b.Intn(2) == 0:
		return "_"
	case b.Intn(8) < b.wild:
		return b.local(kind)
	}
	switch kind {
	case 0:
		return pick(b.Rand, "0", "1", "2")
	case 1:
		return pick(b.Rand, "True", "False")
	case 2:
		return "(" + b.pat(0) + ", " + b.pat(1) + ")"
	}
	if b.Intn(3) == 0 {
		return "[]"
	}
	return "(" + b.pat(kind-3) + " : " + b.pat(kind) + ")"
}

// broad writes a function whose clauses have many patterns.
func broad(r *rand.Rand) string {
	columns := make([]int, 1+r.Intn(6))
	for i := range columns {
		columns[i] = r.Intn(6)
	}
	s := ""
	wild := 2 + r.Intn(4)
	for range 1 + r.Intn(12) {
		b := broadRow{Rand: r, wild: wild, used: []string{"0"}}
		s += "f"
		for _, kind := range columns {
			s += " " + b.pat(kind)
		}
		s += " = " + strings.Join(b.used, " + ") + ";\n"
	}
	return s
}

// TestPlainBroad: P9.5: trees that come to the same rows on many ways.
func TestPlainBroad(t *testing.T) {
	t.Parallel()
	r := rand.New(rand.NewSource(1))
	met, all := map[api.Errno]int{}, plainCounts{}
	for range 600 {
		decls := broad(r)
		if r.Intn(3) == 0 {
			decls = "g y = let {" + decls + "} in f;"
		}
		code, counts := checkPlain(t, []string{"module M; " + decls})
		met[code]++
		all.add(counts)
	}
	t.Log(met, all)
	if met[api.OK] < 500 || all.shared < 600 || all.with < 500 || all.several < 120 {
		t.Error("too few of something")
	}
}

// TestSpoiled: W1: sources of which some tokens are left out, stand twice or give place to others.
func TestSpoiled(t *testing.T) {
	t.Parallel()
	met := map[api.Errno]int{}
	others := strings.Fields("x 1 True [] ( ) , ; : + = -> case of let in { } :: Int data E A.f0 B.N stop `seq` _ \x80")
	sources(t, 20, 700, func(k *maker, texts []string) {
		at := k.Intn(len(texts))
		words := tokens(texts[at])
		for range 1 + k.Intn(2) {
			i, j := k.Intn(len(words)), k.Intn(len(words))
			words[i] = pick(k.Rand, "", words[i]+words[i], " "+pick(k.Rand, others...)+" ", words[j]+" ", words[j]+" ")
		}
		texts[at] = strings.Join(words, "")
		code, _ := checkPlain(t, texts)
		met[code]++
	})
	t.Log(met)
	for _, code := range []api.Errno{api.OK, api.ErrSyntax, api.ErrScopeName, api.ErrScopeArity, api.ErrInferMismatch} {
		if met[code] < 3 {
			t.Errorf("%v is met %d times", code, met[code])
		}
	}
}

// tokens cuts a text ahead of each of its tokens.
func tokens(text string) (words []string) {
	l, err := lex.Lex(text)
	if err != nil {
		panic(err)
	}
	for i, token := range l {
		end := len(text)
		if i+1 < len(l) {
			end = l[i+1].At
		}
		words = append(words, text[token.At:end])
	}
	return words
}

// checkLike: P9.8: of both comes the same.
func checkLike(t *testing.T, what string, one, other []string) {
	t.Helper()
	p, q := checkTaken(t, one...), checkTaken(t, other...)
	if !sameProgram(p, q) {
		t.Errorf("%s: Elab(%s):\n%s\nbut Elab(%s):\n%s", what, strings.Join(one, "|"), told(p), strings.Join(other, "|"), told(q))
	}
}

// TestLike: P9.8: however locals are called, whatever stands between tokens, in however many brackets.
func TestLike(t *testing.T) {
	t.Parallel()
	tried := 0
	sources(t, 60, 400, func(k *maker, texts []string) {
		if _, err := elab.Elab(texts); err != nil {
			return
		}
		tried++
		var spaced, renamed, few []string
		for _, text := range texts {
			spaced = append(spaced, k.spaced(text))
			renamed = append(renamed, rewritten(t, text, pick(k.Rand, "x", "local", "v")))
			few = append(few, rewritten(t, text, ""))
		}
		checkLike(t, "blanks", texts, spaced)
		checkLike(t, "locals", texts, renamed)
		checkLike(t, "brackets", texts, few)
	})
	if tried < 300 {
		t.Error("too few:", tried)
	}
	for _, x := range [][2]string{
		{"1 + 2 * 3 == 4", "((1 + (2 * 3)) == 4)"},
		{"1 - 2 - 3 / 4 / 5", "(1 - 2) - ((3 / 4) / 5)"},
		{"1 : 2 + 3 : []", "(1) : ((2 + 3) : ([]))"},
		{"\\x -> x + 1 : [x]", "(\\(x) -> (((x + 1)) : [(x)]))"},
		{"case 1 of {0 -> 2; x -> x + 1}", "(case (1) of {(0) -> (2); (x) -> ((x) + (1))})"},
		{"let {x = 1; y = \\(a) -> x} in y 2", "(let {x = (1); y = (\\a -> (x));} in ((y) (2)))"},
		{"if True then 1 else 2 + 3", "(if (True) then (1) else (2 + 3))"},
		{"(+ 1 * 2)", "((+ (1 * 2)))"},
		{"(1 * 2 +)", "(((1 * 2) +))"},
		{"(1, [2, 3], (\\x -> x) 4)", "((1), ([(2), (3)]), ((\\x -> (x)) (4)))"},
		{"f 1 `seq` f 2", "((f) (1)) `seq` ((f 2))"},
	} {
		checkLike(t, "brackets", []string{"module M; f x = x; g = " + x[0] + ";"}, []string{"module M; f (x) = (x); g = " + x[1] + ";"})
	}
}

// spaced puts blanks and comments between tokens.
func (k *maker) spaced(text string) string {
	s := ""
	for _, word := range tokens(text) {
		s += word
		if k.Intn(4) == 0 {
			s += pick(k.Rand, " ", "\n", "\t", " -- x = y;\n", " {- x = y; {- -} -} ")
		}
	}
	return s
}

// rewritten is the text as syntax.Print writes it, with names of their own for all locals, that begin so; if that is empty, with the names that they have.
func rewritten(t *testing.T, text, begin string) string {
	m, err := syntax.Parse(text)
	if err != nil {
		t.Fatal(err)
	}
	r := &renamer{begin: begin}
	for i := range m.Clauses {
		r.row(nil, m.Clauses[i].Pats, &m.Clauses[i].Body)
	}
	text, code := syntax.Print(m)
	if code != api.OK {
		t.Fatal(code)
	}
	return text
}

type renamer struct {
	begin string
	names int
}

func (r *renamer) name(old string, in scope) (string, scope) {
	r.names++
	name := fmt.Sprint(r.begin, r.names)
	if r.begin == "" {
		name = old
	}
	return name, in.with(old, name)
}

func (r *renamer) row(in scope, pats []api.Pat, body *api.Term) {
	for i := range pats {
		in = r.pat(in, &pats[i])
	}
	r.term(in, body)
}

func (r *renamer) pat(in scope, p *api.Pat) scope {
	if p.Kind == api.PatVar {
		p.Name, in = r.name(p.Name, in)
	}
	for i := range p.Args {
		in = r.pat(in, &p.Args[i])
	}
	return in
}

func (r *renamer) term(in scope, e *api.Term) {
	if name, ok := in[e.Name]; ok && e.Kind == api.TermVar {
		e.Name = name
	}
	if e.Kind == api.TermLam {
		r.row(in, e.Pats, &e.Args[0])
		return
	}
	outer := in
	for i, c := range e.Clauses {
		if slices.IndexFunc(e.Clauses, func(o api.Clause) bool { return o.Name == c.Name }) == i {
			_, in = r.name(c.Name, in)
		}
	}
	for i := range e.Clauses {
		c := &e.Clauses[i]
		c.Name = in[c.Name]
		r.row(in, c.Pats, &c.Body)
	}
	for i := range e.Args {
		r.term(in, &e.Args[i])
	}
	for i := range e.Alts {
		r.term(r.pat(outer, &e.Alts[i].Pat), &e.Alts[i].Body)
	}
}

// rooms notes the places of all room that lists have, and tells of one that two lists have.
type rooms struct {
	*testing.T
	places map[any]bool
}

func room[T any](r rooms, l []T) {
	for i := range cap(l) {
		at := &l[:cap(l)][i]
		if r.places[at] {
			r.Error("two lists share memory")
		}
		r.places[at] = true
	}
}

func (r rooms) types(l []api.Type) {
	room(r, l)
	for _, t := range l {
		r.types(t.Args)
	}
}

func (r rooms) program(p api.Program) {
	room(r, p.Datas)
	for _, d := range p.Datas {
		room(r, d.Params)
		room(r, d.Cons)
		for _, c := range d.Cons {
			r.types(c.Fields)
		}
	}
	room(r, p.Defs)
	for i := range p.Defs {
		d := &p.Defs[i]
		room(r, d.Params)
		r.types(d.Type.Args)
		r.expr(&d.Body)
	}
}

func (r rooms) expr(e *api.Expr) {
	r.types(e.Types)
	room(r, e.Args)
	for i := range e.Args {
		r.expr(&e.Args[i])
	}
	room(r, e.Binds)
	for i := range e.Binds {
		r.types(e.Binds[i].Type.Args)
		r.expr(&e.Binds[i].Value)
	}
	room(r, e.Alts)
	for i := range e.Alts {
		room(r, e.Alts[i].Vars)
		r.expr(&e.Alts[i].Body)
	}
}

// TestMemory: P9.6: what is handed in stays, its spare room too; no two lists of what is answered, twice, share any room; both answers are the same in all.
func TestMemory(t *testing.T) {
	t.Parallel()
	check := func(t *testing.T, given []string) {
		texts := append(slices.Clone(given), "spare", "room")
		before := slices.Clone(texts)
		handed := texts[:len(texts)-2]
		one, err := elab.Elab(handed)
		other, again := elab.Elab(handed)
		if !slices.Equal(texts, before) {
			t.Errorf("%s has become %s", before, texts)
		}
		if !reflect.DeepEqual(err, again) || !reflect.DeepEqual(one, other) {
			t.Errorf("Elab(%s): %s, %v\nand then %s, %v", short(handed), told(one), err, told(other), again)
		}
		r := rooms{t, map[any]bool{}}
		r.program(one)
		r.program(other)
	}
	sources(t, 70, 150, func(k *maker, texts []string) { check(t, texts) })
	check(t, []string{"module M; f :: [Int] -> [Int]; f x = x; g = f; h x = g x; k x = l x; l x = k x;"})
	check(t, []string{"module M; data T a = A [a] [a] | B (T [a]); f (A [x] [y]) (B _) = [x, y]; f a b = let {g = f; h = f} in g a b;"})
	check(t, []string{"module M; f = ;"})
	check(t, []string{"module M; b" + badRows(10)})
}

// TestAtOneTime: W2: many at one time answer as one alone does.
func TestAtOneTime(t *testing.T) {
	t.Parallel()
	var all [][]string
	var want []api.Program
	sources(t, 80, 20, func(k *maker, texts []string) {
		p, _ := elab.Elab(texts)
		all, want = append(all, texts), append(want, p)
	})
	var wait sync.WaitGroup
	for range 4 {
		for i := range all {
			wait.Go(func() {
				if p, _ := elab.Elab(all[i]); !reflect.DeepEqual(p, want[i]) {
					t.Error("another answer:", short(all[i]))
				}
			})
		}
	}
	wait.Wait()
}
