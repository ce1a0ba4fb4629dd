package compile_test

import (
	"fmt"
	"reflect"
	"slices"
	"sync"
	"testing"

	"sloth/api"
	"sloth/compile"
	"sloth/core"
)

func one(e api.Expr) api.Program {
	return api.Program{Defs: []api.Def{{Name: "m", Type: integer, Body: e}}}
}

// refused are programs of which core.Check says something, and some that are right.
func refused(t *testing.T) map[string]api.Program {
	deep := number(1)
	for range api.MaxDeep {
		deep = api.Expr{Kind: api.ExprSeq, Args: []api.Expr{number(1), deep}}
	}
	programs := map[string]api.Program{"right": one(number(1)), "empty": {}, "too great": {Defs: make([]api.Def, api.MaxCore/3+1)}, "too deep": one(deep)}
	for i, e := range []api.Expr{{}, {Kind: 13}, {Kind: -1}, {Kind: api.ExprInt, Num: api.MaxInt + 1}, {Kind: api.ExprInt, Num: api.MinInt - 1}, {Kind: api.ExprApp}, {Kind: api.ExprCase}, {Kind: api.ExprCase, Args: []api.Expr{number(1)}, Alts: []api.Alt{{}}}, {Kind: api.ExprLet}, {Kind: api.ExprLam}, {Kind: api.ExprLam, Args: []api.Expr{{}}}, {Kind: api.ExprLam, Binds: []api.Bind{{Name: "x", Type: integer, Value: number(1)}}, Args: []api.Expr{number(1)}}, {Kind: api.ExprHard}, {Kind: api.ExprHard, Binds: []api.Bind{{Name: "x", Type: integer}}, Args: []api.Expr{number(1)}}, {Kind: api.ExprFail, Num: 5, Types: []api.Type{integer}}, {Kind: api.ExprFail, Types: []api.Type{integer}}, {Kind: api.ExprFail}, {Kind: api.ExprGlobal}, {Kind: api.ExprGlobal, Name: "m", Types: []api.Type{{}}}, {Kind: api.ExprCon, Name: "Cons"}, {Kind: api.ExprOp, Name: "+"}, {Kind: api.ExprOp, Args: []api.Expr{number(1), number(1)}}, {Kind: api.ExprSeq, Args: []api.Expr{{}, {}}}} {
		programs[fmt.Sprint("expression ", i)] = one(e)
		programs[fmt.Sprint("expression within another one ", i)] = one(api.Expr{Kind: api.ExprOp, Name: "+", Args: []api.Expr{number(1), e}})
	}
	for _, text := range []string{
		`(data Bool () ("x")) (def "m" () Int 7)`, `(data M.T () )`, `(data M.T (a) ("c" b))`, `(data M.T () ("Cons")) (def "m" () Int 1)`, `(data List (a) ("c" a))`,
		`(def "m" () Int 7) (def "m" () Int 7)`, `(def "m" () Int "x")`, `(def "m" () Int 7) (def "n" () Int (con "Nobody"))`, `(def "m" () Int (global "nobody"))`, `(def "m" (a a) Int 1)`,
		`(def "m" () Bool 7)`, `(def "m" () a 7)`, `(def "m" () List (con "Nil"))`, `(def "m" () Int (global "m" Int))`, `(def "m" (a) Int (global "m"))`, `(def "m" () Int (op + 1 (con "True")))`,
		`(def "m" () Int (case 1 (else 2) (int 1 3)))`, `(def "m" () Int (op ++ 1 2))`, `(def "m" () (Int -> Int) (lam "x" Int (let (("x" Int 1)) "x")))`, `(def "m" () Int (hard "x" Int "x" "x"))`, `(def "m" () Int (op + (hard "x" Int 1 "x") (hard "x" Int 1 "x")))`,
		`(def "m" () Int (app (lam "x" Int "y") 1))`, `(def "m" () Int (case (con "Nil" Int) (con "Cons" ("x") 1)))`, `(def "m" () Int (case (con "Nil" Int) (con "True" () 1)))`,
		// no numbers as heads, no constructors with more arguments than they have fields
		`(def "m" () Int (app 1 2))`, `(def "m" () Int (app (app 1 2) 3))`, `(def "m" () (List Int) (app (con "Nil" Int) 1))`, `(def "m" () (List Int) (app (app (app (con "Cons" Int) 1) (con "Nil" Int)) 1))`, `(data M.T () ("C" (Int -> Int))) (def "m" () Int (app (app (con "C") (fail 1 (Int -> Int))) 1))`,
	} {
		programs[text] = raw(t, text)
	}
	return programs
}

// TestRefused: P18.1, W3, W8: each kind of program that core.Check refuses, with nothing beside the error, ahead of what else is wrong, wherever that stands.
func TestRefused(t *testing.T) {
	met := map[api.Errno]int{}
	poly := raw(t, `(def "poly" (a) (a -> a) (lam "x" a "x"))`).Defs
	inner := raw(t, `(def "inner" () Int (app (lam "x" Int "x") 1))`).Defs
	for what, p := range refused(t) {
		e := core.Check(p)
		met[e]++
		checkError(t, what, p, e)
		for _, more := range [][]api.Def{poly, inner, slices.Concat(inner, poly)} {
			want := e
			if e == api.OK {
				want = api.ErrCompileForm
			}
			checkError(t, what+", and another fault ahead", api.Program{Datas: p.Datas, Defs: slices.Concat(more, p.Defs)}, want)
			checkError(t, what+", and another fault behind", api.Program{Datas: p.Datas, Defs: slices.Concat(p.Defs, more)}, want)
		}
	}
	for _, e := range []api.Errno{api.OK, api.ErrBig, api.ErrNest, api.ErrCoreData, api.ErrCoreName, api.ErrCoreType, api.ErrCoreForm} {
		if met[e] == 0 {
			t.Error("not met:", e)
		}
	}
}

// TestForm: P18.1: ErrCompileForm, of a definition with type parameters, and of what is not lifted, wherever that stands.
func TestForm(t *testing.T) {
	right := fn("f", "x Int", "Int", `"x"`) + fn("u", "x Int", "Int", global("f", op("+", `"x"`, "1")))
	for _, text := range []string{
		`(def "p" (a) Int 1)`, `(def "p" (a) (a -> a) (lam "x" a "x"))`, `(def "p" (a b) (List a) (con "Nil" a))`, `(def "p" (a) (a -> a) (lam "x" a (seq (lam "y" a "y") "x")))`,
		`(def "m" () Int (app (lam "y" Int "y") 1))`, `(def "m" () (Int -> Int) (seq 1 (lam "y" Int "y")))`, `(def "m" () (Int -> Int) (let (("n" Int 1)) (lam "y" Int "y")))`,
		`(def "m" () Int (let (("n" (Int -> Int) (lam "y" Int "y"))) 1))`, `(def "m" () (Int -> Int) (hard "n" Int 1 (lam "y" Int "y")))`, `(def "m" () Int (hard "n" (Int -> Int) (lam "y" Int "y") 1))`,
		`(def "m" () (Int -> Int) (case 1 (else (lam "y" Int "y"))))`, `(def "m" () (Int -> Int) (lam "x" Int (app (lam "y" Int "y") "x")))`, `(def "m" () Int (case (app (lam "y" Int "y") 1) (else 1)))`,
		`(def "m" () (Int -> (Int -> Int)) (lam "x" Int (seq "x" (lam "y" Int "x"))))`, `(def "m" () (List (Int -> Int)) (app (app (con "Cons" (Int -> Int)) (lam "y" Int "y")) (con "Nil" (Int -> Int))))`,
	} {
		if core.Check(raw(t, text)) != api.OK {
			t.Fatal("the test is wrong:", text)
		}
		for _, all := range []string{text, text + right, right + text, text + `(def "q" (c) (c -> Int) (lam "x" c 1))`} {
			checkError(t, all, raw(t, all), api.ErrCompileForm)
		}
	}
	// type parameters of data types bar nothing, nor does ExprHard
	compiled(t, read(t, `(data M.T (a b) ("M.A" (a -> b) a))`+right+fn("m", "x Int", "Int", `(hard "h" Int "x" "h")`)))
}

// room is where a list lies, with its spare room.
type room struct{ from, to uintptr }

// rooms tells where all lists of something lie.
func rooms(v reflect.Value, l []room) []room {
	switch v.Kind() {
	case reflect.Struct:
		for i := range v.NumField() {
			l = rooms(v.Field(i), l)
		}
	case reflect.Slice:
		if v.Cap() > 0 {
			from := v.Pointer()
			l = append(l, room{from, from + uintptr(v.Cap())*v.Type().Elem().Size()})
		}
		for i := range v.Len() {
			l = rooms(v.Index(i), l)
		}
	}
	return l
}

func overlap(l []room) bool {
	l = slices.Clone(l)
	slices.SortFunc(l, func(a, b room) int {
		if a.from < b.from {
			return -1
		}
		return 1
	})
	for i := 1; i < len(l); i++ {
		if l[i].from < l[i-1].to {
			return true
		}
	}
	return false
}

// roomy gives each list of something memory of its own, with spare room, in which nothing stands that anybody may touch.
func roomy(v reflect.Value) {
	switch v.Kind() {
	case reflect.Struct:
		for i := range v.NumField() {
			roomy(v.Field(i))
		}
	case reflect.Slice:
		made := reflect.MakeSlice(v.Type(), v.Len(), v.Len()+2)
		reflect.Copy(made, v)
		for i := range made.Len() {
			roomy(made.Index(i))
		}
		v.Set(made)
	}
}

// spoil changes all that lies in the lists of something, spare room too.
func spoil(v reflect.Value) {
	switch v.Kind() {
	case reflect.Struct:
		for i := range v.NumField() {
			spoil(v.Field(i))
		}
	case reflect.Slice:
		v = v.Slice(0, v.Cap())
		for i := range v.Len() {
			spoil(v.Index(i))
			v.Index(i).SetZero()
		}
	}
}

// isWhole: in the spare room of all lists there is nothing, as roomy left it.
func isWhole(v reflect.Value) bool {
	switch v.Kind() {
	case reflect.Struct:
		for i := range v.NumField() {
			if !isWhole(v.Field(i)) {
				return false
			}
		}
	case reflect.Slice:
		for i := range v.Len() {
			if !isWhole(v.Index(i)) {
				return false
			}
		}
		for i := v.Len(); i < v.Cap(); i++ {
			if !v.Slice(0, v.Cap()).Index(i).IsZero() {
				return false
			}
		}
	}
	return true
}

// checkMemory: P18.2, W2, W6: what is handed in stays as it is, spare room too; what comes out is new memory, of which no two lists share any; asked twice, it is the same.
func checkMemory(t *testing.T, whole api.Program) {
	t.Helper()
	p := whole
	roomy(reflect.ValueOf(&p).Elem())
	x := compiled(t, p)
	if fmt.Sprint(p) != fmt.Sprint(whole) || !isWhole(reflect.ValueOf(p)) {
		t.Fatalf("what was handed in has changed: %s", printed(whole))
	}
	again := compiled(t, p)
	if !alike(x, again) {
		t.Fatalf("asked again:\n%s\n%s", shown(x), shown(again))
	}
	own := rooms(reflect.ValueOf(x), nil)
	if overlap(own) {
		t.Fatalf("lists share memory: %s", shown(x))
	}
	others := append(rooms(reflect.ValueOf(p), nil), rooms(reflect.ValueOf(again), nil)...)
	if overlap(append(own, others...)) {
		t.Fatalf("memory is shared with what was handed in, or with another answer: %s", shown(x))
	}
	spoil(reflect.ValueOf(&p).Elem())
	spoil(reflect.ValueOf(&again).Elem())
	if !alike(x, compiled(t, whole)) {
		t.Fatalf("an answer has changed: %s", shown(x))
	}
	spoil(reflect.ValueOf(&x).Elem())
	if want, _ := plainTable(whole); !alike(compiled(t, whole), want) {
		t.Fatalf("what was answered once is kept: %s", shown(want))
	}
}

// TestMemory: P18.2: of programs made at random, and of such in which there is little.
func TestMemory(t *testing.T) {
	t.Parallel()
	many(t, 31, 80, func(k *maker) { checkMemory(t, k.Program) })
	checkMemory(t, api.Program{})
	checkMemory(t, read(t, fn("m", "", "Int", "1")+fn("n", "x Int", "Int", `"x"`)))
	checkMemory(t, read(t, fn("m", "", "("+list+" -> "+list+")", app(`(con "Cons" Int)`, "(fail 1 Int)"))))
}

// TestRefusedMemory: W3, W6: what is refused is not changed either.
func TestRefusedMemory(t *testing.T) {
	for what, whole := range refused(t) {
		p := whole
		roomy(reflect.ValueOf(&p).Elem())
		if _, e := compile.Compile(p); e != core.Check(whole) || fmt.Sprint(p) != fmt.Sprint(whole) || !isWhole(reflect.ValueOf(p)) {
			t.Error(what, e)
		}
	}
}

// TestShared: W5, W6: a program whose lists share memory, or are empty where others are nil, is as good as any other.
func TestShared(t *testing.T) {
	x := api.Expr{Kind: api.ExprVar, Name: "x", Args: []api.Expr{}, Types: []api.Type{}, Binds: []api.Bind{}, Alts: []api.Alt{}}
	y := api.Expr{Kind: api.ExprVar, Name: "y"}
	both := []api.Expr{{Kind: api.ExprOp, Name: "+", Args: []api.Expr{y, x}, Alts: []api.Alt{}}, {Kind: api.ExprOp, Name: "+", Args: []api.Expr{x, x}}}
	use := []api.Expr{{Kind: api.ExprGlobal, Name: "f", Types: []api.Type{}}, {Kind: api.ExprOp, Name: "*", Args: both}}
	half := []api.Expr{{Kind: api.ExprApp, Args: use, Binds: []api.Bind{}}, {Kind: api.ExprOp, Name: "-", Args: both, Types: []api.Type{}}}
	sum := []api.Expr{{Kind: api.ExprApp, Args: half}, {Kind: api.ExprApp, Args: half}}
	body := api.Expr{Kind: api.ExprOp, Name: "/", Args: sum, Types: []api.Type{}}
	types := []api.Type{{Kind: api.TyInt, Args: []api.Type{}}, {Kind: api.TyFun, Args: []api.Type{integer, integer}}}
	inner := []api.Expr{{Kind: api.ExprLam, Binds: []api.Bind{{Name: "y", Type: integer}}, Args: []api.Expr{body}}}
	d := api.Def{Name: "f", Params: []string{}, Type: api.Type{Kind: api.TyFun, Args: types}, Body: api.Expr{Kind: api.ExprLam, Binds: []api.Bind{{Name: "x", Type: integer}}, Args: inner}}
	other := d
	other.Name, other.Params = "g", nil
	p := api.Program{Datas: []api.Data{}, Defs: []api.Def{d, other}}
	got := compiled(t, p)
	text, e := core.Print(p)
	if e != api.OK {
		t.Fatal("the test is wrong:", e)
	}
	if want := compiled(t, read(t, text)); !alike(got, want) || len(got.Globals) != 10 {
		t.Errorf("%s, want %s", shown(got), shown(want))
	}
	if overlap(rooms(reflect.ValueOf(got), nil)) {
		t.Error("lists of the answer share memory")
	}
	checkPlain(t, p, count{})
	for _, p := range []api.Program{{}, {Datas: []api.Data{}, Defs: []api.Def{}}} {
		if x, e := compile.Compile(p); e != api.OK || len(x.Shapes) != 7 || len(x.Globals) != 0 {
			t.Error(x, e)
		}
	}
}

// TestAtOneTime: W2: the answer does not hang on what is asked at the same time.
func TestAtOneTime(t *testing.T) {
	t.Parallel()
	var programs []api.Program
	var want []string
	many(t, 32, 12, func(k *maker) {
		programs = append(programs, k.Program)
		want = append(want, fmt.Sprint(compiled(t, k.Program)))
	})
	var all sync.WaitGroup
	for range 4 {
		all.Go(func() {
			for i, p := range programs {
				if x, _ := compile.Compile(p); fmt.Sprint(x) != want[i] {
					t.Errorf("%s, want %s", shown(x), want[i])
				}
			}
		})
	}
	all.Wait()
}
