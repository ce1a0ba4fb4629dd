package infer_test

import (
	"fmt"
	"math/rand"
	"slices"
	"strings"
	"testing"
	"time"

	"sloth/api"
	"sloth/fixity"
	"sloth/infer"
	"sloth/lex"
	"sloth/syntax"
	"sloth/types"
)

// TestPlain: P6.1 and P6.2: Infer answers as its second form does.
func TestPlain(t *testing.T) {
	for seed := range int64(4) {
		t.Run("", func(t *testing.T) {
			t.Parallel()
			met := map[api.Errno]int{}
			sources(t, 10+seed, 500, anyMaker, func(k *maker, s source) { met[checkPlain(t, s.texts())]++ })
			t.Log(met)
			for _, code := range []api.Errno{api.OK, api.ErrBig, api.ErrInferMismatch, api.ErrInferOccurs, api.ErrInferSig} {
				if met[code] < 3 {
					t.Errorf("%v is met %d times", code, met[code])
				}
			}
		})
	}
}

// TestSpoiled: W1: sources of which some tokens are left out, stand twice or give place to others, most of these of their kinds.
func TestSpoiled(t *testing.T) {
	t.Parallel()
	met := map[api.Errno]int{}
	others := strings.Fields("x 1 True [] ( ) , ; : + = -> case of let in { } :: Int data E A.f0 B.N stop `seq` _ \x80")
	sources(t, 20, 1200, anyMaker, func(k *maker, s source) {
		texts := s.texts()
		at := k.Intn(len(texts))
		words, kinds := tokens(texts[at])
		for range 1 + k.Intn(2) {
			i, j := k.Intn(len(words)), k.Intn(len(words))
			switch c := k.Intn(20); {
			case c == 0:
				words[i] = ""
			case c == 1:
				words[i] += words[i]
			case c == 2:
				words[i] = " " + pick(k.Rand, others...) + " "
			default:
				for range 100 {
					if kinds[i] == kinds[j] && kinds[i] != api.TokSpecial && kinds[i] != api.TokSign && kinds[i] != api.TokWord {
						break
					}
					i, j = k.Intn(len(words)), k.Intn(len(words))
				}
				words[i] = words[j] + " "
			}
		}
		texts[at] = strings.Join(words, "")
		met[checkPlain(t, texts)]++
	})
	t.Log(met)
	for _, code := range []api.Errno{api.OK, api.ErrSyntax, api.ErrScopeName, api.ErrScopeArity, api.ErrInferMismatch} {
		if met[code] < 5 {
			t.Errorf("%v is met %d times", code, met[code])
		}
	}
}

// tokens cuts a text ahead of each of its tokens, and tells their kinds.
func tokens(text string) (words []string, kinds []int) {
	l, err := lex.Lex(text)
	if err != nil {
		panic(err)
	}
	for i, token := range l {
		end := len(text)
		if i+1 < len(l) {
			end = l[i+1].At
		}
		words, kinds = append(words, text[token.At:end]), append(kinds, token.Kind)
	}
	return words, kinds
}

// TestWritten: what is written for a type has that type, or a more general one; with a signature it has that one.
func TestWritten(t *testing.T) {
	t.Parallel()
	more := 0
	sources(t, 30, 1000, carefulMaker, func(k *maker, s source) {
		l := checkTaken(t, s.texts()...)
		i := 0
		for _, d := range slices.Concat(s.defs...) {
			if t.Failed() {
				return
			}
			got := l[i].Type
			if _, ok := special(got, d.is); !ok || !strings.HasSuffix(l[i].Name, strings.Trim(d.own, "()")) {
				t.Errorf("Infer(%s): %s, want %s : %s", short(s.texts()), toldAll(l[i:i+1]), d.name, told(d.is))
			}
			if canon, _ := types.Canon(d.is); !same(got, canon) {
				more++
				if d.sig != "" {
					t.Errorf("Infer(%s): %s, though the signature is %s", short(s.texts()), toldAll(l[i:i+1]), told(d.is))
				}
			}
			i++
		}
	})
	if more < 500 {
		t.Error("too few more general ones:", more)
	}
}

// free tells the names of definitions that no other one names.
func free(texts []string) []string {
	p := &plain{}
	modules, _ := fixity.Resolve(texts)
	for _, m := range modules {
		p.define(m)
	}
	p.follow()
	var l []string
	for _, d := range p.defs {
		if !slices.ContainsFunc(p.defs, func(o plainDef) bool { return o.name != d.name && p.needs[o.name][d.name] }) {
			l = append(l, d.name)
		}
	}
	return l
}

// signed is the source with a signature for one of its definitions.
func signed(s source, m, d int, is api.Type) source {
	s.defs = slices.Clone(s.defs)
	s.defs[m] = slices.Clone(s.defs[m])
	s.defs[m][d].sig = s.defs[m][d].own + " :: " + written(is) + ";\n"
	return s
}

func fullName(m int, d def) string {
	return string(rune('A'+m)) + "." + strings.Trim(d.own, "()")
}

// tooGreat: what may come where a text or a type grows.
func tooGreat(err error) bool {
	fault, ok := api.Seen(err)
	return ok && (fault.Code == api.ErrBig || fault.Code == api.ErrLong)
}

// TestSigTold: P6.4: the type that is told, as a signature, changes nothing.
func TestSigTold(t *testing.T) {
	t.Parallel()
	tried := 0
	sources(t, 40, 600, anyMaker, func(k *maker, s source) {
		want, err := infer.Infer(s.texts())
		if err != nil {
			return
		}
		known := byName(want)
		check := func(s source) {
			tried++
			if got, err := infer.Infer(s.texts()); !tooGreat(err) && (err != nil || !sameAll(got, want)) {
				t.Errorf("Infer(%s): %s, %v\nwant %s", short(s.texts()), toldAll(got), err, toldAll(want))
			}
		}
		all := s
		for m := range s.defs {
			for i, d := range s.defs[m] {
				if d.sig == "" {
					all = signed(all, m, i, known[fullName(m, d)])
					check(signed(s, m, i, known[fullName(m, d)]))
				}
			}
		}
		check(all)
	})
	if tried < 1500 {
		t.Error("too few:", tried)
	}
}

func byName(l []api.Sig) map[string]api.Type {
	known := map[string]api.Type{}
	for _, s := range l {
		known[s.Name] = s.Type
	}
	return known
}

// TestSigInstance: P6.4: of a definition that no other one names, each instance of its type may be its signature.
func TestSigInstance(t *testing.T) {
	t.Parallel()
	tried := 0
	sources(t, 50, 600, anyMaker, func(k *maker, s source) {
		want, err := infer.Infer(s.texts())
		if err != nil {
			return
		}
		known, names := byName(want), free(s.texts())
		for m := range s.defs {
			for i, d := range s.defs[m] {
				name := fullName(m, d)
				if d.sig != "" || !slices.Contains(names, name) {
					continue
				}
				is, ok := k.instance(known[name])
				if !ok {
					continue
				}
				tried++
				texts := signed(s, m, i, is).texts()
				got, err := infer.Infer(texts)
				if tooGreat(err) {
					continue
				}
				told := slices.Clone(want)
				at := slices.IndexFunc(told, func(s api.Sig) bool { return s.Name == name })
				told[at].Type, _ = types.Canon(is)
				if err != nil || !sameAll(got, told) {
					t.Errorf("Infer(%s): %s, %v\nwant %s", short(texts), toldAll(got), err, toldAll(told))
				}
			}
		}
	})
	if tried < 500 {
		t.Error("too few:", tried)
	}
}

// instance makes an instance of a type at random, of types that all modules know.
func (k *maker) instance(t api.Type) (api.Type, bool) {
	k.cons = k.cons[:builtCons]
	var b []api.Bound
	for i := range 26 {
		b = append(b, api.Bound{Name: string(rune('a' + i)), Type: k.typ(k.Intn(3))})
	}
	made, code := types.Apply(b, t)
	return made, code == api.OK
}

// TestOrders: P6.5: in whatever order texts and definitions stand, however locals are called, whatever stands between tokens.
func TestOrders(t *testing.T) {
	t.Parallel()
	tried := 0
	sources(t, 60, 600, anyMaker, func(k *maker, s source) {
		texts := s.texts()
		want, err := infer.Infer(texts)
		if err != nil {
			return
		}
		tried++
		checkSet := func(what string, texts []string) {
			got, err := infer.Infer(texts)
			sortByName(got)
			sortByName(want)
			if err != nil || !sameAll(got, want) {
				t.Errorf("%s: Infer(%s): %s, %v\nof %s it was %s", what, short(texts), toldAll(got), err, short(s.texts()), toldAll(want))
			}
		}
		checkSet("texts", shuffled(k.Rand, texts))
		var other source
		for m, head := range s.heads {
			other.heads = append(other.heads, head)
			other.defs = append(other.defs, shuffled(k.Rand, s.defs[m]))
		}
		checkSet("definitions", other.texts())
		var spaced, renamed []string
		for _, text := range texts {
			spaced = append(spaced, k.spaced(text))
			renamed = append(renamed, renamedText(t, text))
		}
		checkSet("blanks", spaced)
		checkSet("locals", renamed)
	})
	if tried < 250 {
		t.Error("too few:", tried)
	}
}

func shuffled[T any](r *rand.Rand, l []T) []T {
	l = slices.Clone(l)
	r.Shuffle(len(l), func(i, j int) { l[i], l[j] = l[j], l[i] })
	return l
}

func sortByName(l []api.Sig) {
	slices.SortFunc(l, func(a, b api.Sig) int { return strings.Compare(a.Name, b.Name) })
}

// spaced puts blanks and comments between tokens.
func (k *maker) spaced(text string) string {
	s := ""
	words, _ := tokens(text)
	for _, word := range words {
		s += word
		if k.Intn(4) == 0 {
			s += pick(k.Rand, " ", "\n", "\t", " -- x = y;\n", " {- x = y; {- -} -} ")
		}
	}
	return s
}

// renamedText is the text with a name of its own for each local.
func renamedText(t *testing.T, text string) string {
	m, err := syntax.Parse(text)
	if err != nil {
		t.Fatal(err)
	}
	r := &renamer{}
	for i := range m.Clauses {
		r.row(nil, m.Clauses[i].Pats, &m.Clauses[i].Body)
	}
	text, code := syntax.Print(m)
	if code != api.OK {
		t.Fatal(code)
	}
	return text
}

type renamer struct{ names int }

func (r *renamer) name(old string, in scope) (string, scope) {
	r.names++
	name := fmt.Sprint("local", r.names)
	return name, in.with(old, name)
}

func (r *renamer) row(in scope, pats []api.Pat, body *api.Term) {
	for i := range pats {
		in = r.pat(in, &pats[i])
	}
	r.term(in, body)
}

func (r *renamer) pat(in scope, p *api.Pat) scope {
	if p.Kind == api.PatVar {
		p.Name, in = r.name(p.Name, in)
	}
	for i := range p.Args {
		in = r.pat(in, &p.Args[i])
	}
	return in
}

func (r *renamer) term(in scope, e *api.Term) {
	if name, ok := in[e.Name]; ok && e.Kind == api.TermVar {
		e.Name = name
	}
	if e.Kind == api.TermLam {
		r.row(in, e.Pats, &e.Args[0])
		return
	}
	outer := in
	for i, c := range e.Clauses {
		if first(e.Clauses, c.Name) == i {
			_, in = r.name(c.Name, in)
		}
	}
	for i := range e.Clauses {
		c := &e.Clauses[i]
		c.Name = in[c.Name]
	}
	for i := range e.Clauses {
		r.row(in, e.Clauses[i].Pats, &e.Clauses[i].Body)
	}
	for i := range e.Args {
		r.term(in, &e.Args[i])
	}
	for i := range e.Alts {
		r.term(r.pat(outer, &e.Alts[i].Pat), &e.Alts[i].Body)
	}
}

// rooms notes the places of all room that lists have, and tells of one that two lists have.
type rooms struct {
	*testing.T
	places map[any]bool
}

func room[T any](r rooms, l []T) {
	for i := range cap(l) {
		at := &l[:cap(l)][i]
		if r.places[at] {
			r.Error("two lists share memory")
		}
		r.places[at] = true
	}
}

func (r rooms) types(l []api.Type) {
	room(r, l)
	for _, t := range l {
		r.types(t.Args)
	}
}

func (r rooms) sigs(l []api.Sig) {
	room(r, l)
	for _, s := range l {
		r.types(s.Type.Args)
	}
}

// TestMemory: P6.3: what is handed in stays, its spare room too; no two lists of what is answered, twice, share any room; both answers are the same.
func TestMemory(t *testing.T) {
	t.Parallel()
	sources(t, 70, 300, anyMaker, func(k *maker, s source) {
		texts := append(s.texts(), "spare", "room")
		before := slices.Clone(texts)
		handed := texts[:len(texts)-2]
		one, err := infer.Infer(handed)
		other, again := infer.Infer(handed)
		if !slices.Equal(texts, before) {
			t.Errorf("%s has become %s", before, texts)
		}
		fault, _ := api.Seen(err)
		faultAgain, _ := api.Seen(again)
		if fault != faultAgain || !sameAll(one, other) {
			t.Errorf("Infer(%s): %s, %v\nand then %s, %v", short(handed), toldAll(one), err, toldAll(other), again)
		}
		r := rooms{t, map[any]bool{}}
		r.sigs(one)
		r.sigs(other)
	})
	// several that have one type, and one that is another's alone
	r := rooms{t, map[any]bool{}}
	r.sigs(checkTaken(t, "module M; f :: [Int] -> [Int]; f x = x; g = f; h x = g x; k x = l x; l x = k x;"))
}

// soon: what it does takes no longer than work that grows about as the text does.
func soon(t *testing.T, what string, do func()) {
	t.Helper()
	done := make(chan struct{})
	go func() {
		defer close(done)
		do()
	}()
	select {
	case <-done:
	case <-time.After(time.Minute):
		t.Fatal("too long:", what)
	}
}

// TestLong: W1: texts as long, as deep and as broad as may be.
func TestLong(t *testing.T) {
	t.Parallel()
	for what, decls := range map[string]string{
		"a chain":                     numbers(4900, "x#=x$;") + "x4900=1;",
		"a chain, the other way":      "x0=1;" + numbers(4900, "x$=x#;"),
		"a ring":                      numbers(4900, "x#=x$;") + "x4900=x0;",
		"all need the last one":       numbers(4900, "x#=y;") + "y=1;",
		"the last one needs all":      numbers(2400, "x#=1;") + "y=[" + strings.TrimSuffix(numbers(480, "x#,"), ",") + "];",
		"many rings":                  numbers(2400, "x#=y#;y#=x#;"),
		"one let":                     "y=let{" + numbers(4900, "x#=x$;") + "x4900=1}in x0;",
		"lets in one another":         "y=" + strings.Repeat("let{x=1}in ", 990) + "x;",
		"lambdas that hide":           "y=" + strings.Repeat("case 1 of{x->", 990) + "x" + strings.Repeat("}", 990) + ";",
		"a deep call":                 "i x=x;y=" + strings.Repeat("i(", 990) + "1" + strings.Repeat(")", 990) + ";",
		"a deep pattern":              "y" + strings.Repeat("[", 160) + "_" + strings.Repeat("]", 160) + "=1;",
		"many locals":                 "y=case 1 of{" + numbers(198, "x#->x#;") + "};",
		"clauses":                     strings.Repeat("y(a,b)=(b,a);", 200),
		"great types that are shared": "x::" + sized(160) + ";x=stop;" + strings.Repeat("y=["+strings.Repeat("x,", 93)+"x];", 20),
	} {
		soon(t, what, func() { checkTaken(t, "module M;"+decls) })
	}
	many := make([]string, api.MaxTexts)
	for i := range many {
		imports := numbers(i, "import M#;")
		many[i] = fmt.Sprint("module M", i, ";", imports, numbers(1000, "x#=x$;"), "x1000=", max(i-1, 0), ";")
		if i > 0 {
			many[i] += fmt.Sprint("y=M", i-1, ".x0;")
		}
	}
	soon(t, "many modules", func() {
		if l := checkTaken(t, many...); len(l) != 16*1001+15 {
			t.Error(len(l), "types")
		}
	})
}
