package syntax_test

import (
	"math/rand"
	"reflect"
	"strings"
	"testing"

	"sloth/api"
	"sloth/lex"
	"sloth/syntax"
)

// TestSpelledTrees: P2.2 to P2.5 and P2.9: whichever of its texts a tree is written as, Parse gives the tree.
func TestSpelledTrees(t *testing.T) {
	t.Parallel()
	k := maker{rand.New(rand.NewSource(3))}
	for range 600 {
		m := k.module()
		for range 2 {
			s := speller{Rand: k.Rand}
			checkModule(t, s.module(m), m)
		}
		if t.Failed() {
			return
		}
	}
}

// TestPrintedTrees: P2.7 and P2.8.
func TestPrintedTrees(t *testing.T) {
	t.Parallel()
	k := maker{rand.New(rand.NewSource(4))}
	for range 1000 {
		m := k.module()
		checkPrint(t, m, plainPrint(m))
		checkBack(t, m)
		if t.Failed() {
			return
		}
	}
}

// TestReadTexts: P2.8, of texts that the grammar grows: what Parse gives can be printed, and that is printed so again.
func TestReadTexts(t *testing.T) {
	t.Parallel()
	r := rand.New(rand.NewSource(5))
	x := newGrower(r, readGrammar())
	for i := range 3000 {
		l := x.grow("module", 6+r.Intn(12), nil)
		if i%2 == 0 {
			l = append(x.grow("clause", 6+r.Intn(12), l), ";")
		}
		text := strings.Join(l, " ")
		m, err := syntax.Parse(text)
		if err != nil {
			t.Fatalf("Parse(%s): %v", short(text), err)
		}
		checkPrint(t, m, plainPrint(m))
		checkBack(t, m)
		if t.Failed() {
			return
		}
	}
}

// Where Parse gives a module, Print may still say ErrBig: of bytes, of tokens, of brackets.
func TestReadButTooBig(t *testing.T) {
	for _, text := range []string{
		head + strings.TrimSuffix(strings.Repeat("\""+strings.Repeat("a", 900)+"\":", 60), ":") + ";",
		head + strings.TrimSuffix(strings.Repeat("\""+strings.Repeat("a", 200)+"\":", 60), ":") + ";",
		head + strings.Repeat("(+let{f=", 400) + "a" + strings.Repeat("}in a)", 400) + ";",
	} {
		m, err := syntax.Parse(text)
		if err != nil {
			t.Fatalf("Parse(%s): %v", short(text), err)
		}
		checkRefused(t, m, api.ErrBig)
	}
}

// TestChangedTrees: P2.6. A tree in which something was changed is refused just if no text means it; the text that would mean it, if any did, is that of plainPrint.
func TestChangedTrees(t *testing.T) {
	t.Parallel()
	k := maker{rand.New(rand.NewSource(6))}
	refused, taken := 0, 0
	for range 6000 {
		m := k.module()
		if !change(k, reflect.ValueOf(&m).Elem()) {
			continue
		}
		_, code := syntax.Print(m)
		switch code {
		case api.OK:
			taken++
			checkBack(t, m)
		case api.ErrSyntaxTree:
			refused++
			if back, err := meant(m); err == nil && same(back, m) {
				t.Errorf("Print(%s): ErrSyntaxTree, but it is meant by some text", short(m))
			}
		default:
			t.Errorf("Print(%s): %v", short(m), code)
		}
		if t.Failed() {
			return
		}
	}
	if refused < 1500 || taken < 600 {
		t.Error("too few of a sort:", refused, "refused,", taken, "taken")
	}
}

// meant reads the text that a tree would be printed as. Of a tree without the parts that its kind needs there is none.
func meant(m api.Module) (back api.Module, err error) {
	defer func() {
		if recover() != nil {
			err = api.ErrSyntaxTree
		}
	}()
	return syntax.Parse(plainPrint(m))
}

// change changes one thing somewhere in a tree; it tells whether there was something to change.
func change(k maker, v reflect.Value) bool {
	var places []reflect.Value
	var walk func(v reflect.Value)
	walk = func(v reflect.Value) {
		switch v.Kind() {
		case reflect.Struct:
			for i := range v.NumField() {
				walk(v.Field(i))
			}
		case reflect.Slice:
			places = append(places, v)
			for i := range v.Len() {
				walk(v.Index(i))
			}
		default:
			places = append(places, v)
		}
	}
	walk(v)
	p := places[k.Intn(len(places))]
	switch p.Kind() {
	case reflect.Bool:
		p.SetBool(!p.Bool())
	case reflect.Int:
		p.SetInt(pick(k.Rand, p.Int()+1, p.Int()-1, 0, 1, 2, 3, 4, 5, 6, 10, 11))
	case reflect.String:
		p.SetString(pick(k.Rand, "", "a", "A", "N.a", "N.A", "+", ":", "[]", "()", "(,)", "(,,)", "let", "=", "--", "_", "1"))
	case reflect.Slice:
		switch k.Intn(3) {
		case 0:
			if p.Len() == 0 {
				return false
			}
			p.Set(p.Slice(0, p.Len()-1))
		case 1:
			p.Set(reflect.Append(p, reflect.Zero(p.Type().Elem())))
		case 2:
			if p.Len() == 0 {
				return false
			}
			p.Set(reflect.Append(p, p.Index(k.Intn(p.Len()))))
		}
	}
	return true
}

// P2.9.

func TestBracketsAndBlanks(t *testing.T) {
	for _, x := range []struct{ one, other string }{
		{"f = (a + b);", "f=(  (((a+b)))\n)--\n;"},
		{"f = (a +) (+ a) (+) [a] (a, b);", "f = ((a +)) (((+ a))) ((+)) (([((a))])) (((a)), ((b)));"},
		{"f = (- 1) `g` 'a';", "f = ((-1)){-`-}`{-f-}g`{--}'a';"},
		{"f :: (a -> b) -> [(a, b)];", "f::((((a))->((b))))->[((((a)),((b))))];"},
		{"f (C a) (a : b) [(a)] = 1;", "f(((C((a)))))(((a:b)))(([((a))]))=1;"},
		{"f = \\x -> if x then (a) else (b);", "f=\\(x)->(if(x)then((a))else((b)));"},
		{"data T = C (a -> b) (T a) a;", "data T=C(((a->b)))((T a))(a);"},
	} {
		one, err := syntax.Parse("module M; " + x.one)
		other, err2 := syntax.Parse("module M; " + x.other)
		if err != nil || err2 != nil || !same(one, other) {
			t.Errorf("%s: %v, %v; %s: %v, %v", x.one, one, err, x.other, other, err2)
		}
	}
}

// P2.10: what stands behind the token that cannot stand there changes nothing.
func TestFaultsHangOnNothingBehind(t *testing.T) {
	t.Parallel()
	r := rand.New(rand.NewSource(7))
	x := newGrower(r, readGrammar())
	found := 0
	for range 2000 {
		l := append(x.grow("clause", 6+r.Intn(8), strings.Fields("module M ;")), ";")
		l[r.Intn(len(l))] = marks[r.Intn(len(marks))]
		text := strings.Join(l, " ")
		_, err := syntax.Parse(text)
		fault, _ := api.Seen(err)
		if fault.Code != api.ErrSyntax || fault.At == len(text) {
			continue
		}
		found++
		tokens, _ := lex.Lex(text)
		for i, token := range tokens {
			if token.At != fault.At {
				continue
			}
			end := len(text)
			if i+1 < len(tokens) {
				end = tokens[i+1].At
			}
			for range 4 {
				other := text[:end]
				for range r.Intn(6) {
					other += " " + marks[r.Intn(len(marks))]
				}
				checkFault(t, other, api.ErrSyntax, fault.At)
			}
		}
		if t.Failed() {
			return
		}
	}
	if found < 500 {
		t.Error("too few faults:", found)
	}
}

// W6: no list of an answer has room that another one has too, and nothing that is handed in is changed.
func TestMemory(t *testing.T) {
	k := maker{rand.New(rand.NewSource(8))}
	for range 150 {
		m := k.module()
		s := speller{Rand: k.Rand}
		text := s.module(m)
		one, err := syntax.Parse(text)
		if err != nil {
			t.Fatal(err)
		}
		other, _ := syntax.Parse(text)
		spoilSpare(reflect.ValueOf(one))
		if !same(one, m) {
			t.Fatalf("lists share their spare room in Parse(%s)", short(text))
		}
		withSpare := roomy(reflect.ValueOf(m)).Interface().(api.Module)
		if _, code := syntax.Print(withSpare); code != api.OK || !same(withSpare, m) || !spareIsZero(reflect.ValueOf(withSpare)) {
			t.Fatalf("Print(%s) changed it", short(m))
		}
		spoil(reflect.ValueOf(one))
		if !same(other, m) {
			t.Fatalf("two answers share memory: Parse(%s)", short(text))
		}
	}
}

// lists hands on each list within something, outer ones first.
func lists(v reflect.Value, do func(reflect.Value)) {
	switch v.Kind() {
	case reflect.Struct:
		for i := range v.NumField() {
			lists(v.Field(i), do)
		}
	case reflect.Slice:
		do(v)
		for i := range v.Len() {
			lists(v.Index(i), do)
		}
	}
}

// garbage is something that no tree holds.
func garbage(v reflect.Value) {
	switch v.Kind() {
	case reflect.Struct:
		for i := range v.NumField() {
			garbage(v.Field(i))
		}
	case reflect.String:
		v.SetString("garbage")
	case reflect.Int:
		v.SetInt(-7)
	}
}

func spoilSpare(v reflect.Value) {
	lists(v, func(l reflect.Value) {
		for i := l.Len(); i < l.Cap(); i++ {
			garbage(l.Slice(0, l.Cap()).Index(i))
		}
	})
}

// spoil overwrites what the lists hold, inner ones first, since the outer ones lead to them.
func spoil(v reflect.Value) {
	var all []reflect.Value
	lists(v, func(l reflect.Value) { all = append(all, l) })
	for i := len(all) - 1; i >= 0; i-- {
		for j := range all[i].Len() {
			garbage(all[i].Index(j))
		}
	}
}

// roomy copies something so that each list in it has spare room.
func roomy(v reflect.Value) reflect.Value {
	out := reflect.New(v.Type()).Elem()
	switch v.Kind() {
	case reflect.Struct:
		for i := range v.NumField() {
			out.Field(i).Set(roomy(v.Field(i)))
		}
	case reflect.Slice:
		out.Set(reflect.MakeSlice(v.Type(), v.Len(), v.Len()+3))
		for i := range v.Len() {
			out.Index(i).Set(roomy(v.Index(i)))
		}
	default:
		out.Set(v)
	}
	return out
}

func spareIsZero(v reflect.Value) bool {
	zero := true
	lists(v, func(l reflect.Value) {
		for i := l.Len(); i < l.Cap(); i++ {
			zero = zero && l.Slice(0, l.Cap()).Index(i).IsZero()
		}
	})
	return zero
}
