package strict_test

import (
	"fmt"
	"reflect"
	"runtime"
	"slices"
	"strings"
	"sync"
	"testing"

	"sloth/api"
	"sloth/core"
	"sloth/strict"
)

func one(e api.Expr) api.Program {
	return api.Program{Defs: []api.Def{{Name: "m", Type: integer, Body: e}}}
}

// raw reads a program that need not be right.
func raw(t *testing.T, text string) api.Program {
	t.Helper()
	p, code := core.Read(text)
	if code != api.OK {
		t.Fatal("the test is wrong:", text)
	}
	return p
}

// refused are programs of which core.Check says something, and some that are right.
func refused(t *testing.T) map[string]api.Program {
	deep := number(1)
	for range api.MaxDeep {
		deep = api.Expr{Kind: api.ExprSeq, Args: []api.Expr{number(1), deep}}
	}
	programs := map[string]api.Program{"right": one(number(1)), "empty": {}, "too great": {Defs: make([]api.Def, api.MaxCore/3+1)}, "too deep": one(deep)}
	for i, e := range []api.Expr{{}, {Kind: 13}, {Kind: -1}, {Kind: api.ExprInt, Num: api.MaxInt + 1}, {Kind: api.ExprApp}, {Kind: api.ExprCase}, {Kind: api.ExprLet}, {Kind: api.ExprLam}, {Kind: api.ExprLam, Args: []api.Expr{{}}}, {Kind: api.ExprLam, Binds: []api.Bind{{Name: "x", Type: integer, Value: number(1)}}, Args: []api.Expr{number(1)}}, {Kind: api.ExprHard}, {Kind: api.ExprFail, Num: 5, Types: []api.Type{integer}}, {Kind: api.ExprFail}, {Kind: api.ExprGlobal}, {Kind: api.ExprGlobal, Name: "m", Types: []api.Type{{}}}, {Kind: api.ExprCon, Name: "Cons"}, {Kind: api.ExprOp, Name: "+"}, {Kind: api.ExprSeq, Args: []api.Expr{{}, {}}}} {
		programs[fmt.Sprint("expression ", i)] = one(e)
		programs[fmt.Sprint("expression within another one ", i)] = one(api.Expr{Kind: api.ExprOp, Name: "+", Args: []api.Expr{number(1), e}})
	}
	for _, text := range []string{
		`(data Bool () ("x")) (def "m" () Int 7)`, `(data M.T () )`, `(data M.T (a) ("c" b))`, `(data M.T () ("Cons")) (def "m" () Int 1)`, `(data List (a) ("c" a))`,
		`(def "m" () Int 7) (def "m" () Int 7)`, `(def "m" () Int "x")`, `(def "m" () Int 7) (def "n" () Int (con "Nobody"))`, `(def "m" () Int (global "nobody"))`, `(def "m" (a a) Int 1)`,
		`(def "m" () Bool 7)`, `(def "m" () a 7)`, `(def "m" () List (con "Nil"))`, `(def "m" () Int (global "m" Int))`, `(def "m" (a) Int (global "m"))`, `(def "m" () Int (app 1 2))`, `(def "m" () Int (op + 1 (con "True")))`,
		`(def "m" () Int (case 1 (else 2) (int 1 3)))`, `(def "m" () Int (op ++ 1 2))`, `(def "m" () (Int -> Int) (lam "x" Int (let (("x" Int 1)) "x")))`, `(def "m" () Int (hard "x" Int "x" "x"))`,
		`(def "m" () Int (app (lam "x" Int "y") 1))`, `(def "m" () Int (case (con "Nil" Int) (con "Cons" ("x") 1)))`, `(def "m" () Int (case (con "Nil" Int) (con "True" () 1)))`,
	} {
		programs[text] = raw(t, text)
	}
	return programs
}

// TestRefused: P15.1, W3, W8: each kind of program that core.Check refuses, with nothing beside the error, ahead of what else is wrong.
func TestRefused(t *testing.T) {
	met := map[api.Errno]int{}
	poly := raw(t, `(def "poly" (a) (a -> a) (lam "x" a "x"))`).Defs
	inner := raw(t, `(def "inner" () Int (app (lam "x" Int "x") 1))`).Defs
	for what, p := range refused(t) {
		code := core.Check(p)
		met[code]++
		checkCode(t, what, p, code)
		for _, more := range [][]api.Def{poly, inner, slices.Concat(inner, poly)} {
			want := code
			if code == api.OK {
				want = api.ErrStrictForm
			}
			checkCode(t, what+", and another fault ahead", api.Program{Datas: p.Datas, Defs: slices.Concat(more, p.Defs)}, want)
			checkCode(t, what+", and another fault behind", api.Program{Datas: p.Datas, Defs: slices.Concat(p.Defs, more)}, want)
		}
	}
	for _, code := range []api.Errno{api.OK, api.ErrBig, api.ErrNest, api.ErrCoreData, api.ErrCoreName, api.ErrCoreType, api.ErrCoreForm} {
		if met[code] == 0 {
			t.Error("not met:", code)
		}
	}
}

// TestForm: P15.1: ErrStrictForm, of a definition with type parameters, and of what is not lifted, wherever that stands.
func TestForm(t *testing.T) {
	right := fn("f", "x Int", "Int", `"x"`)
	for _, text := range []string{
		`(def "p" (a) Int 1)`, `(def "p" (a) (a -> a) (lam "x" a "x"))`, `(def "p" (a b) (List a) (con "Nil" a))`,
		`(def "m" () Int (app (lam "y" Int "y") 1))`, `(def "m" () (Int -> Int) (seq 1 (lam "y" Int "y")))`, `(def "m" () (Int -> Int) (let (("n" Int 1)) (lam "y" Int "y")))`,
		`(def "m" () Int (let (("n" (Int -> Int) (lam "y" Int "y"))) 1))`, `(def "m" () (Int -> Int) (hard "n" Int 1 (lam "y" Int "y")))`, `(def "m" () Int (hard "n" (Int -> Int) (lam "y" Int "y") 1))`,
		`(def "m" () (Int -> Int) (case 1 (else (lam "y" Int "y"))))`, `(def "m" () (Int -> Int) (lam "x" Int (app (lam "y" Int "y") "x")))`, `(def "m" () Int (case (app (lam "y" Int "y") 1) (else 1)))`,
		`(def "m" () (Int -> (Int -> Int)) (lam "x" Int (seq "x" (lam "y" Int "x"))))`, `(def "m" () (List (Int -> Int)) (app (app (con "Cons" (Int -> Int)) (lam "y" Int "y")) (con "Nil" (Int -> Int))))`,
	} {
		if core.Check(raw(t, text)) != api.OK {
			t.Fatal("the test is wrong:", text)
		}
		for _, all := range []string{text, text + right, right + text, text + `(def "q" (c) (c -> Int) (lam "x" c 1))`} {
			checkCode(t, all, raw(t, all), api.ErrStrictForm)
		}
	}
	// neither limits of other layers nor ExprHard bar it
	for _, text := range []string{numbers(2001, fn("d#", "", "Int", "1")), fn("m", "x Int", "Int", `(hard "h" Int "x" "h")`), `(data M.T (a) ("M.A" (a -> a)))` + right} {
		checkCode(t, text, read(t, text), api.OK)
	}
	checkFirst(t, fn("m", "x Int"+numbers(30, ", u# "+unknown), "Int", `"x"`), "1"+strings.Repeat(" 0", 30)) // more than MaxArity
}

// room is where a list lies, with its spare room.
type room struct{ from, to uintptr }

// rooms tells where all lists of something lie.
func rooms(v reflect.Value, l []room) []room {
	switch v.Kind() {
	case reflect.Struct:
		for i := range v.NumField() {
			l = rooms(v.Field(i), l)
		}
	case reflect.Slice:
		if v.Cap() > 0 {
			from := v.Pointer()
			l = append(l, room{from, from + uintptr(v.Cap())*v.Type().Elem().Size()})
		}
		for i := range v.Len() {
			l = rooms(v.Index(i), l)
		}
	}
	return l
}

func overlap(l []room) bool {
	l = slices.Clone(l)
	slices.SortFunc(l, func(a, b room) int {
		if a.from < b.from {
			return -1
		}
		return 1
	})
	for i := 1; i < len(l); i++ {
		if l[i].from < l[i-1].to {
			return true
		}
	}
	return false
}

// roomy gives each list of something memory of its own, with spare room, in which nothing stands that anybody may touch.
func roomy(v reflect.Value) {
	switch v.Kind() {
	case reflect.Struct:
		for i := range v.NumField() {
			roomy(v.Field(i))
		}
	case reflect.Slice:
		made := reflect.MakeSlice(v.Type(), v.Len(), v.Len()+2)
		reflect.Copy(made, v)
		for i := range made.Len() {
			roomy(made.Index(i))
		}
		v.Set(made)
	}
}

// isWhole: in the spare room of all lists there is nothing, as roomy left it.
func isWhole(v reflect.Value) bool {
	switch v.Kind() {
	case reflect.Struct:
		for i := range v.NumField() {
			if !isWhole(v.Field(i)) {
				return false
			}
		}
	case reflect.Slice:
		for i := range v.Len() {
			if !isWhole(v.Index(i)) {
				return false
			}
		}
		for i := v.Len(); i < v.Cap(); i++ {
			if !v.Slice(0, v.Cap()).Index(i).IsZero() {
				return false
			}
		}
	}
	return true
}

// TestMemory: P15.2, W6: what is handed in stays as it is, spare room too; what comes out is new memory, of which no two lists share any.
func TestMemory(t *testing.T) {
	t.Parallel()
	many(t, 51, 60, func(k *maker) {
		p := k.Program
		roomy(reflect.ValueOf(&p).Elem())
		l := analysed(t, p)
		if fmt.Sprint(p) != fmt.Sprint(k.Program) || !isWhole(reflect.ValueOf(p)) {
			t.Fatalf("what was handed in has changed: %s", printed(k.Program))
		}
		again := analysed(t, p)
		all := rooms(reflect.ValueOf(again), rooms(reflect.ValueOf(l), rooms(reflect.ValueOf(p), nil)))
		if overlap(all) {
			t.Fatalf("lists share memory: %s", printed(p))
		}
		want := tellAll(l)
		for i := range again { // whoever changes an answer changes no other one
			for j := range again[i].Args[:cap(again[i].Args)] {
				again[i].Args[:cap(again[i].Args)][j] = 77
			}
			again[i].Name = ""
		}
		if got := tellAll(analysed(t, p)); tellAll(l) != want || got != want {
			t.Fatalf("an answer has changed: %s", printed(p))
		}
	})
}

// TestShared: W5: a program whose lists share memory, or are empty where others are nil, is as good as any other.
func TestShared(t *testing.T) {
	x := api.Expr{Kind: api.ExprVar, Name: "x", Args: []api.Expr{}, Types: []api.Type{}, Binds: []api.Bind{}, Alts: []api.Alt{}}
	both := []api.Expr{x, x}
	types := []api.Type{{Kind: api.TyInt, Args: []api.Type{}}, integer}
	body := api.Expr{Kind: api.ExprLam, Binds: []api.Bind{{Name: "x", Type: integer}}, Args: []api.Expr{{Kind: api.ExprOp, Name: "+", Args: both, Alts: []api.Alt{}}}}
	d := api.Def{Name: "f", Params: []string{}, Type: api.Type{Kind: api.TyFun, Args: types}, Body: body}
	other := d
	other.Name, other.Params = "g", nil
	if got := tellAll(analysed(t, api.Program{Datas: []api.Data{}, Defs: []api.Def{d, other}})); got != "f: 1; g: 1" {
		t.Error(got)
	}
	for _, p := range []api.Program{{}, {Datas: []api.Data{}, Defs: []api.Def{}}} {
		if l, code := strict.Analyse(p); code != api.OK || len(l) != 0 {
			t.Error(l, code)
		}
	}
}

// TestGoroutines: P15.2, W2: the answer does not hang on how goroutines run, nor on what is asked at the same time; and all of them have ended.
func TestGoroutines(t *testing.T) {
	var programs []api.Program
	var want []string
	many(t, 61, 12, func(k *maker) { programs = append(programs, k.Program) })
	programs = append(programs, read(t, library+numbers(300, fn("f#", "x Int, l "+list, "Int", global("add", `"x"`, global("sum", `"l"`))))+numbers(300, fn("g#", "x Int, l "+list, "Int", global("f#", `"x"`, `"l"`)))))
	for _, p := range programs {
		want = append(want, tellAll(analysed(t, p)))
	}
	for _, processors := range []int{1, 2, 8} {
		ahead := runtime.GOMAXPROCS(processors)
		var all sync.WaitGroup
		for range 4 {
			all.Go(func() {
				for range 3 {
					for i, p := range programs {
						if l, _ := strict.Analyse(p); tellAll(l) != want[i] {
							t.Errorf("%s, want %s", tellAll(l), want[i])
						}
					}
				}
			})
		}
		all.Wait()
		runtime.GOMAXPROCS(ahead)
	}
	running := runtime.NumGoroutine()
	for range 20 {
		strict.Analyse(programs[len(programs)-1])
	}
	for range 1000 {
		if runtime.NumGoroutine() <= running {
			return
		}
		runtime.Gosched()
	}
	t.Error("goroutines are left:", runtime.NumGoroutine(), "behind", running)
}
