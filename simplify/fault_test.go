package simplify_test

import (
	"fmt"
	"reflect"
	"slices"
	"testing"

	"sloth/api"
	"sloth/core"
	"sloth/simplify"
)

func one(e api.Expr) api.Program {
	return api.Program{Defs: []api.Def{{Name: "m", Type: integer, Body: e}}}
}

// TestRefused: P11.1, W3, W4, W8: rounds that may not be, ahead of each kind of program that core.Check refuses.
func TestRefused(t *testing.T) {
	deep := number(1)
	for range api.MaxDeep {
		deep = api.Expr{Kind: api.ExprSeq, Args: []api.Expr{number(1), deep}}
	}
	programs := map[string]api.Program{"right": one(number(1)), "empty": {}, "too great": {Defs: make([]api.Def, api.MaxCore/3+1)}, "too deep": one(deep)}
	for _, e := range []api.Expr{{}, {Kind: 13}, {Kind: -1}, {Kind: api.ExprInt, Num: api.MaxInt + 1}, {Kind: api.ExprApp}, {Kind: api.ExprCase}, {Kind: api.ExprLet}, {Kind: api.ExprLam, Args: []api.Expr{{}}}, {Kind: api.ExprFail, Num: 5, Types: []api.Type{integer}}} {
		programs[reflect.TypeOf(e).Name()+" "+string(rune('a'+len(programs)))] = one(e)
	}
	for _, text := range []string{
		`(data Bool () ("x")) (def "m" () Int 7)`, `(data M.T () )`, `(data M.T (a) ("c" b))`,
		`(def "m" () Int 7) (def "m" () Int 7)`, `(def "m" () Int "x")`, `(def "m" () Int 7) (def "n" () Int (con "Nobody"))`, `(def "m" () Int (global "nobody"))`,
		`(def "m" () Bool 7)`, `(def "m" () a 7)`, `(def "m" () Int (global "m" Int))`, `(def "m" () Int (app 1 2))`, `(def "m" () Int (op + 1 (con "True")))`,
		`(def "m" () Int (case 1 (else 2) (int 1 3)))`, `(def "m" () Int (op ++ 1 2))`, `(def "m" () (Int -> Int) (lam "x" Int (let (("x" Int 1)) "x")))`, `(def "m" () Int (hard "x" Int "x" "x"))`,
	} {
		p, code := core.Read(text)
		if code != api.OK {
			t.Fatal("the test is wrong:", text)
		}
		programs[text] = p
	}
	met := map[api.Errno]int{}
	for what, p := range programs {
		code := core.Check(p)
		met[code]++
		for rounds := range api.MaxRounds + 1 {
			checkCode(t, what, p, rounds, code)
		}
		for _, rounds := range []int{-1, api.MaxRounds + 1, 100, -1 << 63, 1<<63 - 1} {
			checkCode(t, what, p, rounds, api.ErrSimplifyRounds)
		}
	}
	for _, code := range []api.Errno{api.OK, api.ErrBig, api.ErrNest, api.ErrCoreData, api.ErrCoreName, api.ErrCoreType, api.ErrCoreForm} {
		if met[code] == 0 {
			t.Error("the test has no program of which Check says", code)
		}
	}
	// what is wrong counts, though a round would drop it, or though it stands where nothing leads
	for _, text := range []string{`(def "m" () Int (case 1 (int 1 2) (else "x")))`, `(def "m" () Int (let (("x" Int (con "True"))) 1))`, `(def "m" () Int (seq 1 2)) (def "n" () Int (seq (con "Nobody") 1))`} {
		p, _ := core.Read(text)
		checkCode(t, text, p, 1, core.Check(p))
	}
}

// room is where a list lies, with its spare room.
type room struct{ from, to uintptr }

// rooms tells where all lists of something lie.
func rooms(v reflect.Value, l []room) []room {
	switch v.Kind() {
	case reflect.Struct:
		for i := range v.NumField() {
			l = rooms(v.Field(i), l)
		}
	case reflect.Slice:
		if v.Cap() > 0 {
			from := v.Pointer()
			l = append(l, room{from, from + uintptr(v.Cap())*v.Type().Elem().Size()})
		}
		for i := range v.Len() {
			l = rooms(v.Index(i), l)
		}
	}
	return l
}

func overlap(l []room) bool {
	l = slices.Clone(l)
	slices.SortFunc(l, func(a, b room) int {
		if a.from < b.from {
			return -1
		}
		return 1
	})
	for i := 1; i < len(l); i++ {
		if l[i].from < l[i-1].to {
			return true
		}
	}
	return false
}

// spread is an expression in memory with spare room in each list, in which something stands that nobody may touch.
func spread(v reflect.Value) {
	switch v.Kind() {
	case reflect.Struct:
		for i := range v.NumField() {
			spread(v.Field(i))
		}
	case reflect.Slice:
		made := reflect.MakeSlice(v.Type(), v.Len(), v.Len()+2)
		reflect.Copy(made, v)
		for i := range made.Len() {
			spread(made.Index(i))
		}
		v.Set(made)
	}
}

// spoil changes all that lies in the lists of something, spare room too.
func spoil(v reflect.Value) {
	switch v.Kind() {
	case reflect.Struct:
		for i := range v.NumField() {
			spoil(v.Field(i))
		}
	case reflect.Slice:
		v = v.Slice(0, v.Cap())
		for i := range v.Len() {
			spoil(v.Index(i))
			v.Index(i).SetZero()
		}
	}
}

// isWhole: in the spare room of all lists there is nothing, as spread left it.
func isWhole(v reflect.Value) bool {
	switch v.Kind() {
	case reflect.Struct:
		for i := range v.NumField() {
			if !isWhole(v.Field(i)) {
				return false
			}
		}
	case reflect.Slice:
		for i := range v.Len() {
			if !isWhole(v.Index(i)) {
				return false
			}
		}
		for i := v.Len(); i < v.Cap(); i++ {
			if !v.Slice(0, v.Cap()).Index(i).IsZero() {
				return false
			}
		}
	}
	return true
}

// TestMemory: W6: what is handed in stays as it is, spare room too; what comes out is new memory, of which no two lists share any.
func TestMemory(t *testing.T) {
	t.Parallel()
	many(t, 7, 60, func(k *maker) {
		for _, rounds := range []int{0, 1, 3, 8} {
			p := k.Program
			spread(reflect.ValueOf(&p).Elem())
			q, code := simplify.Simplify(p, rounds)
			if code != api.OK {
				continue
			}
			if fmt.Sprint(p) != fmt.Sprint(k.Program) || !isWhole(reflect.ValueOf(p)) {
				t.Fatalf("%d rounds changed what was handed in: %s", rounds, printed(k.Program))
			}
			own := rooms(reflect.ValueOf(q), nil)
			if overlap(own) {
				t.Fatalf("%d rounds: lists share memory: %s", rounds, printed(q))
			}
			if overlap(append(own, rooms(reflect.ValueOf(p), nil)...)) {
				t.Fatalf("%d rounds: memory is shared with what was handed in: %s", rounds, printed(q))
			}
			again := simple(t, p, rounds)
			spoil(reflect.ValueOf(&p).Elem())
			if !same(q, again) {
				t.Fatalf("%d rounds: an answer has changed: %s", rounds, printed(q))
			}
			spoil(reflect.ValueOf(&again).Elem())
			if want := simple(t, k.Program, rounds); !same(q, want) {
				t.Fatalf("%d rounds: an answer has changed: %s", rounds, printed(q))
			}
		}
	})
}

// TestShared: W5, W6: a program whose lists share memory, or are empty where others are nil, is as good as any other.
func TestShared(t *testing.T) {
	part := api.Expr{Kind: api.ExprApp, Args: []api.Expr{{Kind: api.ExprGlobal, Name: "id", Types: []api.Type{integer}}, number(1)}}
	both := []api.Expr{part, part}
	sum := api.Expr{Kind: api.ExprOp, Name: "+", Args: both, Types: []api.Type{}, Binds: []api.Bind{}, Alts: []api.Alt{}}
	twice := api.Expr{Kind: api.ExprOp, Name: "*", Args: []api.Expr{sum, sum}}
	p := read(t, `(def "id" (a) (a -> a) (lam "x" a "x"))`)
	p.Defs = append(p.Defs, api.Def{Name: "m", Params: []string{}, Type: integer, Body: twice})
	want := read(t, `(def "id" (a) (a -> a) (lam "x" a "x")) (def "m" () Int (op * (op + (app (lam "a" Int "a") 1) (app (lam "b" Int "b") 1)) (op + (app (lam "c" Int "c") 1) (app (lam "d" Int "d") 1))))`)
	checkSame(t, p, 1, want)
	checkSame(t, p, 8, read(t, `(def "id" (a) (a -> a) (lam "x" a "x")) (def "m" () Int 4)`))
	if overlap(rooms(reflect.ValueOf(simple(t, p, 0)), nil)) {
		t.Error("lists of the answer share memory")
	}
}
