package lift_test

import (
	"fmt"
	"reflect"
	"slices"
	"testing"

	"sloth/api"
	"sloth/core"
	"sloth/lift"
)

func one(e api.Expr) api.Program {
	return api.Program{Defs: []api.Def{{Name: "m", Type: integer, Body: e}}}
}

// refused are programs of which core.Check says something, and some that are right.
func refused(t *testing.T) map[string]api.Program {
	deep := number(1)
	for range api.MaxDeep {
		deep = api.Expr{Kind: api.ExprSeq, Args: []api.Expr{number(1), deep}}
	}
	programs := map[string]api.Program{"right": one(number(1)), "empty": {}, "too great": {Defs: make([]api.Def, api.MaxCore/3+1)}, "too deep": one(deep)}
	for i, e := range []api.Expr{{}, {Kind: 13}, {Kind: -1}, {Kind: api.ExprInt, Num: api.MaxInt + 1}, {Kind: api.ExprApp}, {Kind: api.ExprCase}, {Kind: api.ExprLet}, {Kind: api.ExprLam}, {Kind: api.ExprLam, Args: []api.Expr{{}}}, {Kind: api.ExprLam, Binds: []api.Bind{{Name: "x", Type: integer, Value: number(1)}}, Args: []api.Expr{number(1)}}, {Kind: api.ExprHard}, {Kind: api.ExprFail, Num: 5, Types: []api.Type{integer}}, {Kind: api.ExprGlobal}, {Kind: api.ExprGlobal, Name: "m", Types: []api.Type{{}}}} {
		programs[fmt.Sprint("expression ", i)] = one(e)
		programs[fmt.Sprint("expression within a function", i)] = one(app(lambda(api.Bind{Name: "y", Type: integer}, e), number(1)))
	}
	for _, text := range []string{
		`(data Bool () ("x")) (def "m" () Int 7)`, `(data M.T () )`, `(data M.T (a) ("c" b))`, `(data M.T () ("c") ("c")) (def "m" () Int 1)`,
		`(def "m" () Int 7) (def "m" () Int 7)`, `(def "m" () Int "x")`, `(def "m" () Int 7) (def "n" () Int (con "Nobody"))`, `(def "m" () Int (global "nobody"))`, `(def "m" (a a) Int 1)`,
		`(def "m" () Bool 7)`, `(def "m" () a 7)`, `(def "m" () Int (global "m" Int))`, `(def "m" (a) Int (global "m"))`, `(def "m" () Int (app 1 2))`, `(def "m" () Int (op + 1 (con "True")))`,
		`(def "m" () Int (case 1 (else 2) (int 1 3)))`, `(def "m" () Int (op ++ 1 2))`, `(def "m" () (Int -> Int) (lam "x" Int (let (("x" Int 1)) "x")))`, `(def "m" () Int (hard "x" Int "x" "x"))`,
		`(def "m" () Int (app (lam "x" Int "y") 1))`, `(def "m" () Int (let (("h" (Int -> Int) (lam "x" Int "y"))) 1))`, `(def "m" () Int (op + (app (lam "x" Int "x") 1) "x"))`, `(def "m" () Int (app (lam "x" Int (app (lam "x" Int "x") 1)) 2))`,
		`(def "m" () Int (let (("h" (Int -> Int) (lam "x" Bool 1))) 1))`, `(def "m" () Int (op + (app (lam "x" Int "x") 1) (app (lam "x" Int "x") 2)))`,
	} {
		p, code := core.Read(text)
		if code != api.OK {
			t.Fatal("the test is wrong:", text)
		}
		programs[text] = p
	}
	return programs
}

// TestRefused: P13.1, P13.2, W3, W8: each kind of program that core.Check refuses, with no program beside the error; none of them is Lifted.
func TestRefused(t *testing.T) {
	met := map[api.Errno]int{}
	poly := read(t, `(def "poly" (a) (a -> a) (lam "x" a "x"))`).Defs
	hard := read(t, def("hard", `(hard "x" Int 1 "x")`)).Defs
	for what, p := range refused(t) {
		code := core.Check(p)
		met[code]++
		checkCode(t, what, p, code)
		if got := lift.Lifted(p); got != (code == api.OK) {
			t.Errorf("%s: Lifted says %v", what, got)
		}
		// ahead of all that else is wrong, wherever that stands
		if code == api.OK {
			continue
		}
		for _, more := range [][]api.Def{poly, hard, append(slices.Clone(poly), hard...)} {
			for _, defs := range [][]api.Def{append(slices.Clone(more), p.Defs...), append(slices.Clone(p.Defs), more...)} {
				q := api.Program{Datas: p.Datas, Defs: defs}
				if core.Check(q) != code {
					t.Fatal("the test is wrong:", what, core.Check(q), code)
				}
				checkCode(t, what+" and more", q, code)
			}
		}
	}
	for _, code := range []api.Errno{api.OK, api.ErrBig, api.ErrNest, api.ErrCoreData, api.ErrCoreName, api.ErrCoreType, api.ErrCoreForm} {
		if met[code] == 0 {
			t.Error("the test has no program of which Check says", code)
		}
	}
}

// TestPolyHard: ErrLiftPoly, then ErrLiftHard, wherever the definition, or the ExprHard, stands; both ahead of what would become too great or too deep.
func TestPolyHard(t *testing.T) {
	const poly = `(def "p" (a) Int 1)`
	const hard = `(hard "n" Int 1 "n")`
	lam := func(body string) string { return `(app (lam "x" Int ` + body + `) 1)` }
	many := numbers(api.MaxGlobals, def("d#", "1"))
	wide := `(def "w" () ` + arrows(25, "Int") + ` ` + lams(25, "x", "1") + `)`
	deep := def("e", `(let (`+numbers(9, `("y#" Int 1)`)+` ("h" (Int -> Int) (lam "x" Int `+nested(3990, "(op + 1 ", sum(each(9, `"y#"`)...), ")")+`))) (app "h" 1))`)
	checkCode(t, "many", read(t, many+def("m", "1")), api.ErrBig)
	checkCode(t, "wide", read(t, wide), api.ErrBig)
	checkCode(t, "deep", read(t, deep), api.ErrNest)
	for _, other := range []string{"", wide, deep, many, wide + deep, many + deep, def("m", lam("1"))} {
		for _, text := range []string{poly + other, other + poly, `(def "p" (a b) (a -> b) (lam "x" a (fail 1 b)))` + other, other + poly + def("h", hard), def("h", hard) + other + poly} {
			checkCode(t, "a parameter and "+short(other), read(t, text), api.ErrLiftPoly)
		}
		for _, body := range []string{
			hard, `(op + 1 ` + hard + `)`, `(op + ` + hard + ` 1)`, `(seq ` + hard + ` 1)`, `(seq 1 ` + hard + `)`, `(app (global "i") ` + hard + `)`, `(app (seq ` + hard + ` (global "i")) 1)`,
			lam(hard), lam(lam0(hard)), `(let (("v" Int ` + hard + `)) 1)`, `(let (("v" Int 1)) ` + hard + `)`, `(let (("v" (Int -> Int) (lam "u" Int ` + hard + `))) 1)`,
			`(case ` + hard + ` (else 1))`, `(case 1 (else ` + hard + `))`, `(case 1 (int 1 ` + hard + `) (else 1))`, `(case (con "Nil" Int) (con "Cons" ("v" "u") ` + hard + `) (else 1))`,
			`(hard "k" (Int -> Int) (lam "x" Int "x") 1)`, `(hard "k" Int 1 ` + lam("2") + `)`, `(hard "k" Int (hard "j" Int 1 "j") (hard "i" Int 1 "k"))`,
		} {
			text := def("h", body) + fun("i", `(lam "x" Int "x")`)
			checkCode(t, body+" and "+short(other), read(t, text+other), api.ErrLiftHard)
			checkCode(t, short(other)+" and "+body, read(t, other+text), api.ErrLiftHard)
			checkCode(t, body+" and a parameter", read(t, text+poly), api.ErrLiftPoly)
		}
		checkCode(t, "own lambdas and "+short(other), read(t, fun("h", `(lam "x" Int `+hard+`)`)+other), api.ErrLiftHard)
	}
}

func lam0(body string) string { return `(app (lam "y" Int ` + body + `) 1)` }

// TestLifted: P13.2: by each of its conditions.
func TestLifted(t *testing.T) {
	const hard = `(hard "n" Int 1 "n")`
	for text, want := range map[string]bool{
		"":             true,
		def("m", "1"):  true,
		def("m", hard): true, // what is worked out first bars nothing
		fun("m", `(lam "x" Int "x")`) + fun("n", `(lam "x" Int (hard "y" Int "x" (op + "y" 1)))`): true,
		`(data M.T (a b) ("M.A" (a -> b)))`:                                                                    true,
		`(def "m" () ` + arrows(25, "Int") + ` ` + lams(25, "x", "1") + `)`:                                    true, // nor do limits
		numbers(2001, def("d#", "1")):                                                                          true,
		`(def "m" () ((List Int) -> Int) (lam "l" (List Int) (case "l" (con "Cons" ("x" "t") "x") (else 1))))`: true,
		fun("m", `(let (("h" (Int -> Int) (global "m")) ("k" (Int -> Int) "h")) "k")`):                         true,
		`(def "p" (a) Int 1)`: false,
		`(def "p" (a) (a -> a) (lam "x" a "x"))` + def("m", "1"):                                                         false,
		def("m", "1") + `(def "p" (a) Int 1)`:                                                                            false,
		def("m", `(app (lam "x" Int "x") 1)`):                                                                            false,
		def("m", `(app (global "f") (app (lam "x" Int "x") 1))`) + fun("f", `(lam "x" Int "x")`):                         false,
		fun("f", `(lam "x" Int "x")`) + def("m", `(op + 1 (app (lam "x" Int "x") 1))`):                                   false,
		def("m", `(seq (lam "x" Int "x") 1)`):                                                                            false,
		fun("m", `(seq 1 (lam "x" Int "x"))`):                                                                            false,
		fun("m", `(let (("n" Int 1)) (lam "x" Int "x"))`):                                                                false,
		def("m", `(let (("n" (Int -> Int) (lam "x" Int "x"))) 1)`):                                                       false,
		def("m", `(let (("k" Int 1) ("n" (Int -> Int) (seq 1 (lam "x" Int "x")))) 1)`):                                   false,
		fun("m", `(case 1 (int 1 (global "m")) (else (lam "x" Int "x")))`):                                               false,
		fun("m", `(case 1 (int 1 (lam "x" Int "x")))`):                                                                   false,
		fun("m", `(case (con "Nil" Int) (con "Cons" ("u" "v") (lam "x" Int "x")) (con "Nil" () (global "m")))`):          false,
		def("m", `(case (app (lam "x" Int "x") 1) (else 1))`):                                                            false,
		fun("m", `(hard "n" Int 1 (lam "x" Int "x"))`):                                                                   false,
		def("m", `(hard "n" (Int -> Int) (lam "x" Int "x") 1)`):                                                          false,
		`(def "m" () (Int -> (Int -> Int)) (lam "x" Int (hard "n" Int "x" (lam "y" Int "n"))))`:                          false,
		`(def "m" () (Int -> (Int -> Int)) (lam "x" Int (seq "x" (lam "y" Int "x"))))`:                                   false,
		`(def "m" () (Int -> (Int -> Int)) (lam "x" Int (lam "y" Int (app (app (lam "z" Int (lam "w" Int "z")) 1) 2))))`: false,
	} {
		p := read(t, text)
		if got := lift.Lifted(p); got != want {
			t.Errorf("%s: Lifted says %v", short(text), got)
		}
	}
	// what is not right is not Lifted, though all lambdas stand at the top
	for _, text := range []string{def("m", `(con "True")`), fun("m", `(lam "x" Int "y")`), `(data M.T () )` + def("m", "1"), def("m", "1") + def("m", "1")} {
		if p, code := core.Read(text); code != api.OK || lift.Lifted(p) {
			t.Errorf("%s: Lifted", text)
		}
	}
}

// room is where a list lies, with its spare room.
type room struct{ from, to uintptr }

// rooms tells where all lists of something lie.
func rooms(v reflect.Value, l []room) []room {
	switch v.Kind() {
	case reflect.Struct:
		for i := range v.NumField() {
			l = rooms(v.Field(i), l)
		}
	case reflect.Slice:
		if v.Cap() > 0 {
			from := v.Pointer()
			l = append(l, room{from, from + uintptr(v.Cap())*v.Type().Elem().Size()})
		}
		for i := range v.Len() {
			l = rooms(v.Index(i), l)
		}
	}
	return l
}

func overlap(l []room) bool {
	l = slices.Clone(l)
	slices.SortFunc(l, func(a, b room) int {
		if a.from < b.from {
			return -1
		}
		return 1
	})
	for i := 1; i < len(l); i++ {
		if l[i].from < l[i-1].to {
			return true
		}
	}
	return false
}

// roomy gives each list of something memory of its own, with spare room, in which nothing stands that anybody may touch.
func roomy(v reflect.Value) {
	switch v.Kind() {
	case reflect.Struct:
		for i := range v.NumField() {
			roomy(v.Field(i))
		}
	case reflect.Slice:
		made := reflect.MakeSlice(v.Type(), v.Len(), v.Len()+2)
		reflect.Copy(made, v)
		for i := range made.Len() {
			roomy(made.Index(i))
		}
		v.Set(made)
	}
}

// spoil changes all that lies in the lists of something, spare room too.
func spoil(v reflect.Value) {
	switch v.Kind() {
	case reflect.Struct:
		for i := range v.NumField() {
			spoil(v.Field(i))
		}
	case reflect.Slice:
		v = v.Slice(0, v.Cap())
		for i := range v.Len() {
			spoil(v.Index(i))
			v.Index(i).SetZero()
		}
	}
}

// isWhole: in the spare room of all lists there is nothing, as roomy left it.
func isWhole(v reflect.Value) bool {
	switch v.Kind() {
	case reflect.Struct:
		for i := range v.NumField() {
			if !isWhole(v.Field(i)) {
				return false
			}
		}
	case reflect.Slice:
		for i := range v.Len() {
			if !isWhole(v.Index(i)) {
				return false
			}
		}
		for i := v.Len(); i < v.Cap(); i++ {
			if !v.Slice(0, v.Cap()).Index(i).IsZero() {
				return false
			}
		}
	}
	return true
}

// TestMemory: W2, W6: what is handed in stays as it is, spare room too; what comes out is new memory, of which no two lists share any; asked twice, it is the same.
func TestMemory(t *testing.T) {
	t.Parallel()
	check := func(whole api.Program) {
		p := whole
		roomy(reflect.ValueOf(&p).Elem())
		q, code := lift.Lift(p)
		lift.Lifted(p)
		if !alike(p, whole) || !isWhole(reflect.ValueOf(p)) {
			t.Fatalf("what was handed in has changed: %s", printed(whole))
		}
		again, codeAgain := lift.Lift(p)
		if code != codeAgain || !alike(q, again) {
			t.Fatalf("asked again: %v\n%s\n%v\n%s", code, printed(q), codeAgain, printed(again))
		}
		own := rooms(reflect.ValueOf(q), nil)
		if overlap(own) {
			t.Fatalf("lists share memory: %s", printed(q))
		}
		others := append(rooms(reflect.ValueOf(p), nil), rooms(reflect.ValueOf(again), nil)...)
		if overlap(append(own, others...)) {
			t.Fatalf("memory is shared with what was handed in, or with another answer: %s", printed(q))
		}
		spoil(reflect.ValueOf(&p).Elem())
		spoil(reflect.ValueOf(&again).Elem())
		if want, _ := lift.Lift(whole); !alike(q, want) {
			t.Fatalf("an answer has changed: %s", printed(q))
		}
	}
	many(t, 9, 100, func(k *maker) { check(k.Program) })
	crowds(t, 10, 60, check)
	check(read(t, `(data M.T (a) ("M.A" a (List a)) ("M.B" (Pair a a)))`+def("m", "1")+fun("n", `(lam "x" Int "x")`))) // nothing to do
}

// TestShared: W5, W6: a program whose lists share memory, or are empty where others are nil, is as good as any other.
func TestShared(t *testing.T) {
	variable := func(name string) api.Expr { return api.Expr{Kind: api.ExprVar, Name: name} }
	call := []api.Expr{variable("h"), variable("y")}
	part := api.Expr{Kind: api.ExprApp, Args: call, Types: []api.Type{}, Binds: []api.Bind{}, Alts: []api.Alt{}}
	both := []api.Expr{part, part}
	types := []api.Type{integer, integer}
	h := api.Bind{Name: "h", Type: api.Type{Kind: api.TyFun, Args: types}, Value: api.Expr{Kind: api.ExprLam, Binds: []api.Bind{{Name: "x", Type: integer}}, Args: []api.Expr{{Kind: api.ExprOp, Name: "+", Args: both}}, Types: []api.Type{}}}
	body := api.Expr{Kind: api.ExprLam, Binds: []api.Bind{{Name: "y", Type: integer}}, Args: []api.Expr{{Kind: api.ExprLet, Binds: []api.Bind{h}, Args: []api.Expr{{Kind: api.ExprOp, Name: "*", Args: both}}}}}
	p := api.Program{Datas: []api.Data{}, Defs: []api.Def{{Name: "f", Params: []string{}, Type: h.Type, Body: body}, {Name: "k", Type: h.Type, Body: body}}}
	q := lifted(t, p)
	text := func(name string) string {
		return fun(name, `(lam "y" Int (op * (app (app (global "`+name+`$1") "y") "y") (app (app (global "`+name+`$1") "y") "y")))`) +
			`(def "` + name + `$1" () ` + arrows(2, "Int") + ` (lam "y" Int (lam "x" Int (op + (app (app (global "` + name + `$1") "y") "y") (app (app (global "` + name + `$1") "y") "y")))))`
	}
	if want := read(t, text("f")+text("k")); !alike(q, want) {
		t.Errorf("%s, want %s", printed(q), printed(want))
	}
	if overlap(append(rooms(reflect.ValueOf(q), nil), room{reflect.ValueOf(both).Pointer(), reflect.ValueOf(both).Pointer() + 1}, room{reflect.ValueOf(call).Pointer(), reflect.ValueOf(call).Pointer() + 1}, room{reflect.ValueOf(types).Pointer(), reflect.ValueOf(types).Pointer() + 1})) {
		t.Error("lists of the answer share memory")
	}
}
