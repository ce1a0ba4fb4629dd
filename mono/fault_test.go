package mono_test

import (
	"fmt"
	"reflect"
	"slices"
	"testing"

	"sloth/api"
	"sloth/core"
	"sloth/mono"
)

func one(e api.Expr) api.Program {
	return api.Program{Defs: []api.Def{{Name: "m", Type: integer, Body: e}}}
}

// TestRefused: P12.1, W3, W4, W8: each kind of program that core.Check refuses, ahead of an entry that is not there.
func TestRefused(t *testing.T) {
	deep := number(1)
	for range api.MaxDeep {
		deep = api.Expr{Kind: api.ExprSeq, Args: []api.Expr{number(1), deep}}
	}
	programs := map[string]api.Program{"right": one(number(1)), "empty": {}, "too great": {Defs: make([]api.Def, api.MaxCore/3+1)}, "too deep": one(deep)}
	for i, e := range []api.Expr{{}, {Kind: 13}, {Kind: -1}, {Kind: api.ExprInt, Num: api.MaxInt + 1}, {Kind: api.ExprApp}, {Kind: api.ExprCase}, {Kind: api.ExprLet}, {Kind: api.ExprLam, Args: []api.Expr{{}}}, {Kind: api.ExprFail, Num: 5, Types: []api.Type{integer}}, {Kind: api.ExprGlobal}, {Kind: api.ExprGlobal, Name: "m", Types: []api.Type{{}}}} {
		programs[fmt.Sprint("expression ", i)] = one(e)
	}
	for _, text := range []string{
		`(data Bool () ("x")) (def "m" () Int 7)`, `(data M.T () )`, `(data M.T (a) ("c" b))`, `(data M.T () ("c") ("c")) (def "m" () Int 1)`,
		`(def "m" () Int 7) (def "m" () Int 7)`, `(def "m" () Int "x")`, `(def "m" () Int 7) (def "n" () Int (con "Nobody"))`, `(def "m" () Int (global "nobody"))`, `(def "m" (a a) Int 1)`,
		`(def "m" () Bool 7)`, `(def "m" () a 7)`, `(def "m" () Int (global "m" Int))`, `(def "m" (a) Int (global "m"))`, `(def "m" (a) Int (global "m" b))`, `(def "m" () Int (app 1 2))`, `(def "m" () Int (op + 1 (con "True")))`,
		`(def "m" () Int (case 1 (else 2) (int 1 3)))`, `(def "m" () Int (op ++ 1 2))`, `(def "m" () (Int -> Int) (lam "x" Int (let (("x" Int 1)) "x")))`, `(def "m" () Int (hard "x" Int "x" "x"))`,
	} {
		p, code := core.Read(text)
		if code != api.OK {
			t.Fatal("the test is wrong:", text)
		}
		programs[text] = p
	}
	met := map[api.Errno]int{}
	for what, p := range programs {
		code := core.Check(p)
		met[code]++
		none := code
		if code == api.OK {
			none = api.ErrMonoEntry
		}
		for _, entry := range []string{"", "nobody", "x", "M", "m ", "Nil"} {
			checkCode(t, what+", none of the name "+entry, p, entry, none)
		}
		if len(p.Defs) > 0 {
			checkCode(t, what, p, p.Defs[0].Name, code)
		}
	}
	for _, code := range []api.Errno{api.OK, api.ErrBig, api.ErrNest, api.ErrCoreData, api.ErrCoreName, api.ErrCoreType, api.ErrCoreForm} {
		if met[code] == 0 {
			t.Error("the test has no program of which Check says", code)
		}
	}
	// what is wrong counts, though the entry does not need it, and ahead of all that is met in the row
	wrong := `(def "wrong" () Int (con "True"))`
	for _, text := range []string{def("main", "1"), id + def("id{Int}", "1") + def("main", `(op + (app (global "id" Int) 1) (global "id{Int}"))`), `(def "main" (a) Int (global "main" (List a)))`} {
		p, _ := core.Read(text + wrong)
		checkCode(t, text, p, "main", api.ErrCoreType)
	}
}

// room is where a list lies, with its spare room.
type room struct{ from, to uintptr }

// rooms tells where all lists of something lie.
func rooms(v reflect.Value, l []room) []room {
	switch v.Kind() {
	case reflect.Struct:
		for i := range v.NumField() {
			l = rooms(v.Field(i), l)
		}
	case reflect.Slice:
		if v.Cap() > 0 {
			from := v.Pointer()
			l = append(l, room{from, from + uintptr(v.Cap())*v.Type().Elem().Size()})
		}
		for i := range v.Len() {
			l = rooms(v.Index(i), l)
		}
	}
	return l
}

func overlap(l []room) bool {
	l = slices.Clone(l)
	slices.SortFunc(l, func(a, b room) int {
		if a.from < b.from {
			return -1
		}
		return 1
	})
	for i := 1; i < len(l); i++ {
		if l[i].from < l[i-1].to {
			return true
		}
	}
	return false
}

// roomy gives each list of something memory of its own, with spare room, in which nothing stands that anybody may touch.
func roomy(v reflect.Value) {
	switch v.Kind() {
	case reflect.Struct:
		for i := range v.NumField() {
			roomy(v.Field(i))
		}
	case reflect.Slice:
		made := reflect.MakeSlice(v.Type(), v.Len(), v.Len()+2)
		reflect.Copy(made, v)
		for i := range made.Len() {
			roomy(made.Index(i))
		}
		v.Set(made)
	}
}

// spoil changes all that lies in the lists of something, spare room too.
func spoil(v reflect.Value) {
	switch v.Kind() {
	case reflect.Struct:
		for i := range v.NumField() {
			spoil(v.Field(i))
		}
	case reflect.Slice:
		v = v.Slice(0, v.Cap())
		for i := range v.Len() {
			spoil(v.Index(i))
			v.Index(i).SetZero()
		}
	}
}

// isWhole: in the spare room of all lists there is nothing, as roomy left it.
func isWhole(v reflect.Value) bool {
	switch v.Kind() {
	case reflect.Struct:
		for i := range v.NumField() {
			if !isWhole(v.Field(i)) {
				return false
			}
		}
	case reflect.Slice:
		for i := range v.Len() {
			if !isWhole(v.Index(i)) {
				return false
			}
		}
		for i := v.Len(); i < v.Cap(); i++ {
			if !v.Slice(0, v.Cap()).Index(i).IsZero() {
				return false
			}
		}
	}
	return true
}

// TestMemory: P12.3, W2, W6: what is handed in stays as it is, spare room too; what comes out is new memory, of which no two lists share any; asked twice, it is the same.
func TestMemory(t *testing.T) {
	t.Parallel()
	many(t, 7, 25, func(k *maker) {
		for _, entry := range k.allNames() {
			p := k.Program
			roomy(reflect.ValueOf(&p).Elem())
			q, code := mono.Mono(p, entry)
			if !alike(p, k.Program) || !isWhole(reflect.ValueOf(p)) {
				t.Fatalf("%s changed what was handed in: %s", entry, printed(k.Program))
			}
			again, codeAgain := mono.Mono(p, entry)
			if code != codeAgain || !alike(q, again) {
				t.Fatalf("%s, asked again: %v\n%s\n%v\n%s", entry, code, printed(q), codeAgain, printed(again))
			}
			own := rooms(reflect.ValueOf(q), nil)
			if overlap(own) {
				t.Fatalf("%s: lists share memory: %s", entry, printed(q))
			}
			others := append(rooms(reflect.ValueOf(p), nil), rooms(reflect.ValueOf(again), nil)...)
			if overlap(append(own, others...)) {
				t.Fatalf("%s: memory is shared with what was handed in, or with another answer: %s", entry, printed(q))
			}
			spoil(reflect.ValueOf(&p).Elem())
			spoil(reflect.ValueOf(&again).Elem())
			if want, _ := mono.Mono(k.Program, entry); !alike(q, want) {
				t.Fatalf("%s: an answer has changed: %s", entry, printed(q))
			}
		}
	})
}

// TestShared: W5, W6: a program whose lists share memory, or are empty where others are nil, is as good as any other.
func TestShared(t *testing.T) {
	list := []api.Type{typ("(List a)"), typ("(List a)")}
	part := api.Expr{Kind: api.ExprSeq, Args: []api.Expr{{Kind: api.ExprGlobal, Name: "any2", Types: list}, {Kind: api.ExprFail, Num: 1, Types: list[:1]}}, Types: []api.Type{}, Binds: []api.Bind{}, Alts: []api.Alt{}}
	both := []api.Expr{part, part}
	p := read(t, any3)
	p.Datas = []api.Data{}
	p.Defs = append(p.Defs, api.Def{Name: "f", Params: []string{"a"}, Type: list[0], Body: api.Expr{Kind: api.ExprSeq, Args: both}}, api.Def{Name: "m", Params: []string{}, Type: integer, Body: api.Expr{Kind: api.ExprSeq, Args: []api.Expr{{Kind: api.ExprGlobal, Name: "f", Types: []api.Type{integer}}, number(1)}}})
	q := made(t, p, "m")
	const twice = `(seq (global "any2{(List Int),(List Int)}") (fail 1 (List Int)))`
	want := read(t, def("m", `(seq (global "f{Int}") 1)`)+`(def "f{Int}" () (List Int) (seq `+twice+` `+twice+`))
		(def "any2{(List Int),(List Int)}" () (List Int) (seq (global "any{(List Int)}") (global "any{(List Int)}"))) (def "any{(List Int)}" () (List Int) (fail 1 (List Int)))`)
	if !alike(q, want) {
		t.Errorf("%s, want %s", printed(q), printed(want))
	}
	if overlap(rooms(reflect.ValueOf(q), nil)) {
		t.Error("lists of the answer share memory")
	}
}
