package worker_test

import (
	"fmt"
	"reflect"
	"slices"
	"sync"
	"testing"

	"sloth/api"
	"sloth/core"
	"sloth/worker"
)

func one(e api.Expr) api.Program {
	return api.Program{Defs: []api.Def{{Name: "m", Type: integer, Body: e}}}
}

// refused are programs of which core.Check says something, and some that are right.
func refused(t *testing.T) map[string]api.Program {
	deep := number(1)
	for range api.MaxDeep {
		deep = api.Expr{Kind: api.ExprSeq, Args: []api.Expr{number(1), deep}}
	}
	programs := map[string]api.Program{"right": one(number(1)), "empty": {}, "too great": {Defs: make([]api.Def, api.MaxCore/3+1)}, "too deep": one(deep)}
	for i, e := range []api.Expr{{}, {Kind: 13}, {Kind: -1}, {Kind: api.ExprInt, Num: api.MaxInt + 1}, {Kind: api.ExprApp}, {Kind: api.ExprCase}, {Kind: api.ExprLet}, {Kind: api.ExprLam}, {Kind: api.ExprLam, Args: []api.Expr{{}}}, {Kind: api.ExprLam, Binds: []api.Bind{{Name: "x", Type: integer, Value: number(1)}}, Args: []api.Expr{number(1)}}, {Kind: api.ExprHard}, {Kind: api.ExprHard, Binds: []api.Bind{{Name: "x", Type: integer}}, Args: []api.Expr{number(1)}}, {Kind: api.ExprFail, Num: 5, Types: []api.Type{integer}}, {Kind: api.ExprFail}, {Kind: api.ExprGlobal}, {Kind: api.ExprGlobal, Name: "m", Types: []api.Type{{}}}, {Kind: api.ExprCon, Name: "Cons"}, {Kind: api.ExprOp, Name: "+"}, {Kind: api.ExprSeq, Args: []api.Expr{{}, {}}}} {
		programs[fmt.Sprint("expression ", i)] = one(e)
		programs[fmt.Sprint("expression within another one ", i)] = one(api.Expr{Kind: api.ExprOp, Name: "+", Args: []api.Expr{number(1), e}})
	}
	for _, text := range []string{
		`(data Bool () ("x")) (def "m" () Int 7)`, `(data M.T () )`, `(data M.T (a) ("c" b))`, `(data M.T () ("Cons")) (def "m" () Int 1)`, `(data List (a) ("c" a))`,
		`(def "m" () Int 7) (def "m" () Int 7)`, `(def "m" () Int "x")`, `(def "m" () Int 7) (def "n" () Int (con "Nobody"))`, `(def "m" () Int (global "nobody"))`, `(def "m" (a a) Int 1)`,
		`(def "m" () Bool 7)`, `(def "m" () a 7)`, `(def "m" () List (con "Nil"))`, `(def "m" () Int (global "m" Int))`, `(def "m" (a) Int (global "m"))`, `(def "m" () Int (app 1 2))`, `(def "m" () Int (op + 1 (con "True")))`,
		`(def "m" () Int (case 1 (else 2) (int 1 3)))`, `(def "m" () Int (op ++ 1 2))`, `(def "m" () (Int -> Int) (lam "x" Int (let (("x" Int 1)) "x")))`, `(def "m" () Int (hard "x" Int "x" "x"))`, `(def "m" () Int (op + (hard "x" Int 1 "x") (hard "x" Int 1 "x")))`,
		`(def "m" () Int (app (lam "x" Int "y") 1))`, `(def "m" () Int (case (con "Nil" Int) (con "Cons" ("x") 1)))`, `(def "m" () Int (case (con "Nil" Int) (con "True" () 1)))`,
	} {
		programs[text] = raw(t, text)
	}
	return programs
}

// TestRefused: P16.1, W3, W8: each kind of program that core.Check refuses, with nothing beside the error, ahead of what else is wrong, wherever that stands.
func TestRefused(t *testing.T) {
	met := map[api.Errno]int{}
	poly := raw(t, `(def "poly" (a) (a -> a) (lam "x" a "x"))`).Defs
	inner := raw(t, `(def "inner" () Int (app (lam "x" Int "x") 1))`).Defs
	for what, p := range refused(t) {
		code := core.Check(p)
		met[code]++
		checkCode(t, what, p, code)
		for _, more := range [][]api.Def{poly, inner, slices.Concat(inner, poly)} {
			want := code
			if code == api.OK {
				want = api.ErrWorkerForm
			}
			checkCode(t, what+", and another fault ahead", api.Program{Datas: p.Datas, Defs: slices.Concat(more, p.Defs)}, want)
			checkCode(t, what+", and another fault behind", api.Program{Datas: p.Datas, Defs: slices.Concat(p.Defs, more)}, want)
		}
	}
	for _, code := range []api.Errno{api.OK, api.ErrBig, api.ErrNest, api.ErrCoreData, api.ErrCoreName, api.ErrCoreType, api.ErrCoreForm} {
		if met[code] == 0 {
			t.Error("not met:", code)
		}
	}
}

// TestForm: P16.1: ErrWorkerForm, of a definition with type parameters, and of what is not lifted, wherever that stands.
func TestForm(t *testing.T) {
	right := fn("f", "x Int", "Int", `"x"`) + fn("u", "x Int", "Int", global("f", op("+", `"x"`, "1")))
	for _, text := range []string{
		`(def "p" (a) Int 1)`, `(def "p" (a) (a -> a) (lam "x" a "x"))`, `(def "p" (a b) (List a) (con "Nil" a))`, `(def "p" (a) (a -> a) (lam "x" a (seq (lam "y" a "y") "x")))`,
		`(def "m" () Int (app (lam "y" Int "y") 1))`, `(def "m" () (Int -> Int) (seq 1 (lam "y" Int "y")))`, `(def "m" () (Int -> Int) (let (("n" Int 1)) (lam "y" Int "y")))`,
		`(def "m" () Int (let (("n" (Int -> Int) (lam "y" Int "y"))) 1))`, `(def "m" () (Int -> Int) (hard "n" Int 1 (lam "y" Int "y")))`, `(def "m" () Int (hard "n" (Int -> Int) (lam "y" Int "y") 1))`,
		`(def "m" () (Int -> Int) (case 1 (else (lam "y" Int "y"))))`, `(def "m" () (Int -> Int) (lam "x" Int (app (lam "y" Int "y") "x")))`, `(def "m" () Int (case (app (lam "y" Int "y") 1) (else 1)))`,
		`(def "m" () (Int -> (Int -> Int)) (lam "x" Int (seq "x" (lam "y" Int "x"))))`, `(def "m" () (List (Int -> Int)) (app (app (con "Cons" (Int -> Int)) (lam "y" Int "y")) (con "Nil" (Int -> Int))))`,
	} {
		if core.Check(raw(t, text)) != api.OK {
			t.Fatal("the test is wrong:", text)
		}
		for _, all := range []string{text, text + right, right + text, text + `(def "q" (c) (c -> Int) (lam "x" c 1))`} {
			checkCode(t, all, raw(t, all), api.ErrWorkerForm)
		}
	}
	// neither limits of other layers nor ExprHard bar it
	for _, text := range []string{numbers(2001, fn("d#", "", "Int", "1")), fn("m", "x Int", "Int", `(hard "h" Int "x" "h")`), `(data M.T (a) ("M.A" (a -> a)))` + right, fn("m", "x Int"+numbers(30, ", y# Int"), "Int", `"x"`)} {
		checkCode(t, text, read(t, text), api.OK)
	}
}

// room is where a list lies, with its spare room.
type room struct{ from, to uintptr }

// rooms tells where all lists of something lie.
func rooms(v reflect.Value, l []room) []room {
	switch v.Kind() {
	case reflect.Struct:
		for i := range v.NumField() {
			l = rooms(v.Field(i), l)
		}
	case reflect.Slice:
		if v.Cap() > 0 {
			from := v.Pointer()
			l = append(l, room{from, from + uintptr(v.Cap())*v.Type().Elem().Size()})
		}
		for i := range v.Len() {
			l = rooms(v.Index(i), l)
		}
	}
	return l
}

func overlap(l []room) bool {
	l = slices.Clone(l)
	slices.SortFunc(l, func(a, b room) int {
		if a.from < b.from {
			return -1
		}
		return 1
	})
	for i := 1; i < len(l); i++ {
		if l[i].from < l[i-1].to {
			return true
		}
	}
	return false
}

// roomy gives each list of something memory of its own, with spare room, in which nothing stands that anybody may touch.
func roomy(v reflect.Value) {
	switch v.Kind() {
	case reflect.Struct:
		for i := range v.NumField() {
			roomy(v.Field(i))
		}
	case reflect.Slice:
		made := reflect.MakeSlice(v.Type(), v.Len(), v.Len()+2)
		reflect.Copy(made, v)
		for i := range made.Len() {
			roomy(made.Index(i))
		}
		v.Set(made)
	}
}

// spoil changes all that lies in the lists of something, spare room too.
func spoil(v reflect.Value) {
	switch v.Kind() {
	case reflect.Struct:
		for i := range v.NumField() {
			spoil(v.Field(i))
		}
	case reflect.Slice:
		v = v.Slice(0, v.Cap())
		for i := range v.Len() {
			spoil(v.Index(i))
			v.Index(i).SetZero()
		}
	}
}

// isWhole: in the spare room of all lists there is nothing, as roomy left it.
func isWhole(v reflect.Value) bool {
	switch v.Kind() {
	case reflect.Struct:
		for i := range v.NumField() {
			if !isWhole(v.Field(i)) {
				return false
			}
		}
	case reflect.Slice:
		for i := range v.Len() {
			if !isWhole(v.Index(i)) {
				return false
			}
		}
		for i := v.Len(); i < v.Cap(); i++ {
			if !v.Slice(0, v.Cap()).Index(i).IsZero() {
				return false
			}
		}
	}
	return true
}

// checkMemory: W2, W6: what is handed in stays as it is, spare room too; what comes out is new memory, of which no two lists share any; asked twice, it is the same.
func checkMemory(t *testing.T, whole api.Program) {
	t.Helper()
	p := whole
	roomy(reflect.ValueOf(&p).Elem())
	q := split(t, p)
	if !alike(p, whole) || !isWhole(reflect.ValueOf(p)) {
		t.Fatalf("what was handed in has changed: %s", printed(whole))
	}
	again := split(t, p)
	if !alike(q, again) {
		t.Fatalf("asked again:\n%s\n%s", printed(q), printed(again))
	}
	own := rooms(reflect.ValueOf(q), nil)
	if overlap(own) {
		t.Fatalf("lists share memory: %s", printed(q))
	}
	others := append(rooms(reflect.ValueOf(p), nil), rooms(reflect.ValueOf(again), nil)...)
	if overlap(append(own, others...)) {
		t.Fatalf("memory is shared with what was handed in, or with another answer: %s", printed(q))
	}
	spoil(reflect.ValueOf(&p).Elem())
	spoil(reflect.ValueOf(&again).Elem())
	if !alike(q, split(t, whole)) {
		t.Fatalf("an answer has changed: %s", printed(q))
	}
}

// TestMemory: W2, W6: of programs made at random, and where there is nothing to do.
func TestMemory(t *testing.T) {
	t.Parallel()
	many(t, 31, 80, func(k *maker) { checkMemory(t, k.Program) })
	checkMemory(t, read(t, `(data M.T (a) ("M.A" a (List a)) ("M.B" (Pair a a)))`+fn("m", "", "Int", "1")+fn("n", "x Int", "Int", `"x"`)))
	checkMemory(t, read(t, f("Int", add(global("fst", fail("(Pair Int Int)")), global("sum", fail(list))))))
}

// TestShared: W5, W6: a program whose lists share memory, or are empty where others are nil, is as good as any other.
func TestShared(t *testing.T) {
	x := api.Expr{Kind: api.ExprVar, Name: "x", Args: []api.Expr{}, Types: []api.Type{}, Binds: []api.Bind{}, Alts: []api.Alt{}}
	sum := api.Expr{Kind: api.ExprOp, Name: "+", Args: []api.Expr{x, x}, Alts: []api.Alt{}}
	use := []api.Expr{{Kind: api.ExprGlobal, Name: "f", Types: []api.Type{}}, sum}
	both := []api.Expr{{Kind: api.ExprApp, Args: use, Binds: []api.Bind{}}, {Kind: api.ExprApp, Args: use}}
	types := []api.Type{{Kind: api.TyInt, Args: []api.Type{}}, integer}
	d := api.Def{Name: "f", Params: []string{}, Type: api.Type{Kind: api.TyFun, Args: types}, Body: api.Expr{Kind: api.ExprLam, Binds: []api.Bind{{Name: "x", Type: integer}}, Args: []api.Expr{{Kind: api.ExprOp, Name: "*", Args: both, Types: []api.Type{}}}}}
	other := d
	other.Name, other.Params = "g", nil
	q := split(t, api.Program{Datas: []api.Data{}, Defs: []api.Def{d, other}})
	turned := func(name string) string { return hard(name, "Int", op("+", `"x"`, `"x"`), global("f", `"`+name+`"`)) }
	want := read(t, fn("f", "x Int", "Int", op("*", turned("a"), turned("b")))+fn("g", "x Int", "Int", op("*", turned("a"), turned("b"))))
	if !same(t, q, want) {
		t.Errorf("%s, want %s", printed(q), printed(want))
	}
	if overlap(rooms(reflect.ValueOf(q), nil)) {
		t.Error("lists of the answer share memory")
	}
	for _, p := range []api.Program{{}, {Datas: []api.Data{}, Defs: []api.Def{}}} {
		if q, code := worker.Split(p); code != api.OK || len(q.Datas)+len(q.Defs) != 0 {
			t.Error(q, code)
		}
	}
}

// TestAtOneTime: W2: the answer does not hang on what is asked at the same time.
func TestAtOneTime(t *testing.T) {
	t.Parallel()
	var programs []api.Program
	var want []string
	many(t, 32, 12, func(k *maker) {
		programs = append(programs, k.Program)
		want = append(want, fmt.Sprint(split(t, k.Program)))
	})
	var all sync.WaitGroup
	for range 4 {
		all.Go(func() {
			for i, p := range programs {
				if q, _ := worker.Split(p); fmt.Sprint(q) != want[i] {
					t.Errorf("%s, want %s", printed(q), want[i])
				}
			}
		})
	}
	all.Wait()
}
