package core_test

import (
	"strings"
	"testing"

	"sloth/api"
	"sloth/core"
)

const (
	id    = `(def "id" (a) (a -> a) (lam "x" a "x"))`
	konst = `(def "k" (a b) (a -> (b -> a)) (lam "x" a (lam "y" b "x")))`
	shapy = `(data M.T (a b) ("M.A" a (M.T b a)) ("M.B" (a -> b)) ("M.C"))`
)

// TestExamples: P8.1, P8.3: the chapter's table.
func TestExamples(t *testing.T) {
	for _, x := range []struct {
		text string
		want api.Errno
	}{
		{"", api.OK},
		{`(def "f" () Int (op + 1 2))`, api.OK},
		{id, api.OK},
		{`(def "f" () Int (app (global "id" Int) 1)) (def "id" (a) (a -> a) (lam "x" a "x"))`, api.OK},
		{`(def "f" () Int (app (global "id") 1)) (def "id" (a) (a -> a) (lam "x" a "x"))`, api.ErrCoreType},
		{`(data M.T (a) ("M.A" a) ("M.B")) (def "f" () Int (case (app (con "M.A" Int) 1) (con "M.A" ("y") "y")))`, api.OK},
		{`(def "f" () (Int -> Int) (lam "x" Int (let (("x" Int 1)) "x")))`, api.ErrCoreName},
		{`(def "f" () Int (let (("x" Int "y") ("y" Int "x")) "x"))`, api.OK},
		{`(def "f" () Int (hard "x" Int "x" "x"))`, api.ErrCoreName},
		{`(def "f" () Bool (case 1 (int 1 (con "True")) (else (con "False")) (int 2 (con "True"))))`, api.ErrCoreForm},
		{`(data Bool () ("x"))`, api.ErrCoreData},
		{`(data M.T () )`, api.ErrCoreData},
		{`(data M.T () ("Nil"))`, api.ErrCoreData},
		{`(data M.T (a) ("c" b))`, api.ErrCoreData},
		{`(def "f" () a 1)`, api.ErrCoreType},
		{`(def "f" () Int (fail 5 Int))`, api.ErrCoreForm},
		{`(def "f" () Int (op ++ 1 2))`, api.ErrCoreForm},
		{`(def "f" () Int (case 1))`, api.ErrCoreForm},
	} {
		checkText(t, x.text, x.want)
	}
	if n := core.Size(read(t, `(def "f" () Int (op + 1 2))`)); n != 5 {
		t.Error("Size", n)
	}
}

// TestKinds: P8.1, P8.2: each kind of expressions and its type; what is not so.
func TestKinds(t *testing.T) {
	p := read(t, id+konst)
	p.Datas = read(t, shapy).Datas
	locals := []api.Bind{{Name: "n", Type: integer}, {Name: "b", Type: data("Bool")}, {Name: "g", Type: fun(integer, data("Bool"))}, {Name: "v", Type: variable("v")}, {Name: "t", Type: typ("(M.T Int v)")}, {Name: "l", Type: typ("(List v)")}}
	for _, x := range []struct{ expr, is string }{
		{`"n"`, "Int"}, {`"g"`, "(Int -> Bool)"}, {`"v"`, "v"}, {`7`, "Int"}, {`-4611686018427387904`, "Int"}, {`4611686018427387903`, "Int"},
		{`(global "id" Int)`, "(Int -> Int)"}, {`(global "id" (v -> w))`, "((v -> w) -> (v -> w))"}, {`(global "k" b a)`, "(b -> (a -> b))"},
		{`(con "True")`, "Bool"}, {`(con "Unit")`, "Unit"}, {`(con "Nil" z)`, "(List z)"}, {`(con "Cons" Int)`, "(Int -> ((List Int) -> (List Int)))"},
		{`(con "Pair" b a)`, "(b -> (a -> (Pair b a)))"}, {`(con "Triple" Int Bool c)`, "(Int -> (Bool -> (c -> (Triple Int Bool c))))"},
		{`(con "M.A" b a)`, "(b -> ((M.T a b) -> (M.T b a)))"}, {`(con "M.B" Int a)`, "((Int -> a) -> (M.T Int a))"}, {`(con "M.C" Int a)`, "(M.T Int a)"},
		{`(app "g" "n")`, "Bool"}, {`(app (global "k" Int v) 1)`, "(v -> Int)"},
		{`(lam "x" v "n")`, "(v -> Int)"}, {`(lam "x" v (lam "y" Int "x"))`, "(v -> (Int -> v))"},
		{`(let (("x" v "v") ("y" (Int -> v) (lam "z" Int "x"))) (app "y" 1))`, "v"}, {`(let (("x" (List Int) (app (app (con "Cons" Int) 1) "x"))) "x")`, "(List Int)"},
		{`(hard "x" v "v" (global "id" v))`, "(v -> v)"},
		{`(case "n" (int 1 "v") (int -1 "v") (else "v"))`, "v"}, {`(case "n" (else 1))`, "Int"}, {`(case "v1" (else 1))`, ""},
		{`(case "t" (con "M.A" ("x" "y") "y") (else (con "M.C" v Int)))`, "(M.T v Int)"}, {`(case "t" (con "M.B" ("x") (app "x" 1)) (con "M.C" () "v"))`, "v"},
		{`(case "l" (con "Cons" ("x" "y") "x") (con "Nil" () "v"))`, "v"}, {`(case "b" (con "True" () 1) (con "False" () 2))`, "Int"},
		{`(op + 1 "n")`, "Int"}, {`(op - 1 2)`, "Int"}, {`(op * 1 2)`, "Int"}, {`(op / 1 2)`, "Int"}, {`(op % 1 2)`, "Int"},
		{`(op == 1 2)`, "Bool"}, {`(op /= 1 2)`, "Bool"}, {`(op < 1 2)`, "Bool"}, {`(op <= 1 2)`, "Bool"}, {`(op > 1 2)`, "Bool"}, {`(op >= 1 2)`, "Bool"},
		{`(seq "g" "l")`, "(List v)"}, {`(seq 1 "b")`, "Bool"}, {`(fail 1 (v -> w))`, "(v -> w)"}, {`(fail 2 Int)`, "Int"}, {`(fail 3 Int)`, "Int"}, {`(fail 4 Bool)`, "Bool"},
	} {
		is, code := core.Type(p, locals, read(t, `(def "f" () Int `+x.expr+`)`).Defs[0].Body)
		if x.is == "" {
			checkCode(t, x.expr, code, api.ErrCoreName)
		} else if code != api.OK || !alike(is, typ(x.is)) {
			t.Errorf("%s: %s, %v", x.expr, toldType(is), code)
		}
	}
}

// TestWrongExprs: P8.1: what an expression can have wrong, in a definition of type Int with the Param a.
func TestWrongExprs(t *testing.T) {
	const (
		name, kind, form = api.ErrCoreName, api.ErrCoreType, api.ErrCoreForm
	)
	for _, x := range []struct {
		expr string
		want api.Errno
	}{
		{`1`, api.OK}, {`"x"`, name}, {`"f"`, name}, {`(global "g")`, name}, {`(con "M.A" Int)`, name}, {`(con "M.T" Int Int)`, name}, {`(con "id" Int)`, name}, {`(global "Nil" Int)`, name},
		{`(global "f" a)`, api.OK}, {`(global "f")`, kind}, {`(global "f" a a)`, kind}, {`(global "f" b)`, kind}, {`(global "f" M.U)`, kind}, {`(global "f" List)`, kind}, {`(global "f" (List a a))`, kind}, {`(global "f" (Bool a))`, kind},
		{`(con "A")`, kind}, {`(con "A" a a a)`, kind}, {`(seq (con "A" a a) 1)`, api.OK}, {`(seq (con "A" a b) 1)`, kind}, {`(con "Nil")`, kind}, {`(con "True" a)`, kind},
		{`(fail 1 b)`, kind}, {`(fail 0 Int)`, form}, {`(fail -1 Int)`, form}, {`(fail 5 Int)`, form}, {`(fail 1 (T a))`, kind}, {`(fail 1 Bool)`, kind},
		{`(app 1 2)`, kind}, {`(app (lam "x" Bool 1) 2)`, kind}, {`(app (lam "x" Int "x") 2)`, api.OK}, {`(app (lam "x" a "x") 2)`, kind}, {`(app (fail 1 (T Int a)) 2)`, kind}, {`(app (fail 1 a) 2)`, kind},
		{`(op + 1 (con "True"))`, kind}, {`(op + (fail 1 a) 1)`, kind}, {`(op == 1 2)`, kind}, {`(op + (lam "x" Int 1) 2)`, kind}, {`(op +- 1 2)`, form}, {`(op = 1 2)`, form}, {`(op seq 1 2)`, form}, {`(op => 1 2)`, form},
		{`(seq 1 (con "True"))`, kind}, {`(lam "x" Int 1)`, kind}, {`(app (lam "x" b 1) 2)`, kind}, {`(app (lam "x" Int "y") 2)`, name},
		{`(let () 1)`, form}, {`(let (("x" Int 1) ("x" Int 1)) 1)`, name}, {`(let (("x" b 1)) 1)`, kind}, {`(let (("x" Bool 1)) 1)`, kind}, {`(let (("x" Int "y") ("y" Int "z")) 1)`, name}, {`(let (("x" Int 1)) (con "True"))`, kind},
		{`(hard "x" Bool 1 2)`, kind}, {`(hard "x" b 1 2)`, kind}, {`(hard "x" Int "x" 2)`, name}, {`(hard "x" Int (lam "y" Int "x") 2)`, name}, {`(hard "x" Int 1 "x")`, api.OK}, {`(hard "x" Int (let (("x" Int 2)) 1) "x")`, name},
		{`(case (lam "x" Int 1) (else 1))`, kind}, {`(case (fail 1 a) (else 1))`, kind}, {`(case 1 (else (con "True")))`, kind}, {`(case 1 (int 1 1) (else (con "True")))`, kind}, {`(case 1 (int 1 1) (int 2 (con "True")) (int 3 1))`, kind},
		{`(case 1 (else 1) (else 1))`, form}, {`(case 1 (else 1) (int 1 1))`, form}, {`(case 1 (int 1 1) (int 2 1) (int 1 1))`, form}, {`(case 1 (con "True" () 1))`, form}, {`(case (con "True") (int 0 1))`, form},
		{`(case (con "True") (con "True" () 1) (con "False" () 1) (con "True" () 1))`, form}, {`(case (con "True") (con "Nil" () 1))`, name}, {`(case (con "True") (con "" () 1))`, api.ErrCoreText}, {`(case (con "True") (con "x" () 1))`, name},
		{`(case (con "True") (con "True" ("x") 1))`, form}, {`(case (con "Nil" a) (con "Cons" ("x") 1))`, form}, {`(case (con "Nil" a) (con "Cons" ("x" "y" "z") 1))`, form}, {`(case (con "Nil" a) (con "Cons" ("x" "x") 1))`, name},
		{`(case (con "Nil" a) (con "Cons" ("x" "y") "x"))`, kind}, {`(case (con "Nil" Int) (con "Cons" ("x" "y") "x") (else "x"))`, name}, {`(case (con "Nil" Int) (con "Cons" ("x" "y") "x") (else 3))`, api.OK},
		{`(case (case 1 (int 1 2)) (int 0 1))`, api.OK}, {`(case 1 (int 0 1) (else 1))`, api.OK}, {`(case "x" (int 0 "x"))`, name},
	} {
		text := `(data T (a b) ("A" (a -> b))) (def "f" (a) Int ` + x.expr + `)`
		p, code := core.Read(text)
		if x.want == api.ErrCoreText {
			checkCode(t, text, code, x.want)
			continue
		}
		checkCode(t, text, code, api.OK)
		checkCode(t, text, core.Check(p), x.want)
	}
}

// TestBoundTwice: P8.1: a local's name is bound once in a definition, wherever the places are; it is known only where it may be.
func TestBoundTwice(t *testing.T) {
	binders := []string{`(app (lam "x" Int 1) 1)`, `(let (("x" Int 1)) 1)`, `(hard "x" Int 1 1)`, `(case (con "Nil" Int) (con "Cons" ("x" "z") 1))`, `(case (fail 1 (Pair Int Int)) (con "Pair" ("z" "x") 1))`}
	for _, a := range binders {
		for _, b := range binders {
			for _, around := range []string{`(op + A B)`, `(seq A B)`, `(let (("y" Int A)) B)`, `(hard "y" Int A B)`, `(case A (int 1 B))`, `(case 1 (int 1 A) (else B))`, `(app (lam "y" Int A) B)`} {
				made := strings.NewReplacer("A", a, "B", strings.ReplaceAll(b, `"z"`, `"w"`)).Replace(around)
				checkText(t, `(def "f" () Int `+made+`)`, api.ErrCoreName)
				made = strings.NewReplacer("A", a, "B", strings.NewReplacer(`"z"`, `"w"`, `"x"`, `"v"`).Replace(b)).Replace(around)
				checkText(t, `(def "f" () Int `+made+`)`, api.OK)
			}
			inner := strings.TrimSuffix(a, "1)") + "BODY)"
			if strings.HasSuffix(a, "1) 1)") {
				inner = strings.Replace(a, "1) 1)", "BODY) 1)", 1)
			}
			if strings.HasSuffix(a, "1))") {
				inner = strings.TrimSuffix(a, "1))") + "BODY))"
			}
			checkText(t, `(def "f" () Int `+strings.Replace(inner, "BODY", strings.ReplaceAll(b, `"z"`, `"w"`), 1)+`)`, api.ErrCoreName)
			checkText(t, `(def "f" () Int `+strings.Replace(inner, "BODY", `"x"`, 1)+`)`, api.OK)
		}
		checkText(t, `(def "f" () Int (op + `+a+` "x"))`, api.ErrCoreName)
		checkText(t, `(def "f" () Int (op + "x" `+a+`))`, api.ErrCoreName)
		checkText(t, `(def "f" () Int `+a+`) (def "g" () Int `+a+`)`, api.OK)
		checkText(t, `(def "f" () Int `+a+`) (def "x" () Int (app (lam "f" Int (global "x")) (global "f")))`, api.OK)
	}
}

// TestStray: P8.1: a field that the kind does not name is not zero, or there are too many or too few things in a list.
func TestStray(t *testing.T) {
	bind := []api.Bind{{Name: "x", Type: integer}}
	full := []api.Bind{{Name: "x", Type: integer, Value: num(1)}}
	ones := []api.Expr{num(1), num(1), num(1)}
	alts := []api.Alt{altElse(num(1))}
	for _, e := range []api.Expr{
		{}, {Kind: -1}, {Kind: 13}, {Kind: 1 << 40},
		{Kind: api.ExprInt, Name: "x"}, {Kind: api.ExprInt, Types: []api.Type{integer}}, {Kind: api.ExprInt, Args: ones[:1]}, {Kind: api.ExprInt, Binds: bind}, {Kind: api.ExprInt, Alts: alts}, {Kind: api.ExprInt, Num: api.MaxInt + 1}, {Kind: api.ExprInt, Num: api.MinInt - 1}, {Kind: api.ExprInt, Num: -1 << 63},
		{Kind: api.ExprVar, Name: "x", Num: 1}, {Kind: api.ExprVar, Name: "x", Types: []api.Type{integer}}, {Kind: api.ExprVar, Name: "x", Args: ones[:1]},
		{Kind: api.ExprGlobal, Name: "f", Num: 1}, {Kind: api.ExprGlobal, Name: "f", Args: ones[:1]}, {Kind: api.ExprGlobal, Name: "f", Binds: bind}, {Kind: api.ExprCon, Name: "True", Num: -1}, {Kind: api.ExprCon, Name: "True", Alts: alts},
		{Kind: api.ExprApp, Args: ones[:1]}, {Kind: api.ExprApp}, {Kind: api.ExprApp, Args: ones}, {Kind: api.ExprApp, Name: "+", Args: ones[:2]}, {Kind: api.ExprApp, Args: ones[:2], Types: []api.Type{{}}},
		{Kind: api.ExprLam, Binds: bind}, {Kind: api.ExprLam, Args: ones[:1]}, {Kind: api.ExprLam, Binds: full, Args: ones[:1]}, {Kind: api.ExprLam, Binds: append(bind[:1:1], bind...), Args: ones[:1]}, {Kind: api.ExprLam, Binds: bind, Args: ones[:2]}, {Kind: api.ExprLam, Binds: bind, Args: ones[:1], Name: "x"},
		{Kind: api.ExprLam, Binds: []api.Bind{{Name: "x", Type: integer, Value: api.Expr{Num: 1}}}, Args: ones[:1]}, {Kind: api.ExprLam, Binds: []api.Bind{{Name: "x", Type: integer, Value: api.Expr{Args: ones[:1]}}}, Args: ones[:1]}, {Kind: api.ExprLam, Binds: []api.Bind{{Name: "x", Type: integer, Value: api.Expr{Name: "y"}}}, Args: ones[:1]},
		{Kind: api.ExprLam, Binds: []api.Bind{{Name: "x", Type: integer, Value: api.Expr{Types: []api.Type{{}}}}}, Args: ones[:1]}, {Kind: api.ExprLam, Binds: []api.Bind{{Name: "x", Type: integer, Value: api.Expr{Alts: alts}}}, Args: ones[:1]}, {Kind: api.ExprLam, Binds: []api.Bind{{Name: "x", Type: integer, Value: api.Expr{Binds: bind}}}, Args: ones[:1]},
		{Kind: api.ExprLet, Args: ones[:1]}, {Kind: api.ExprLet, Binds: full}, {Kind: api.ExprLet, Binds: full, Args: ones[:2]}, {Kind: api.ExprLet, Binds: bind, Args: ones[:1]}, {Kind: api.ExprLet, Binds: full, Args: ones[:1], Num: 1},
		{Kind: api.ExprHard, Args: ones[:1]}, {Kind: api.ExprHard, Binds: full}, {Kind: api.ExprHard, Binds: append(full[:1:1], full...), Args: ones[:1]}, {Kind: api.ExprHard, Binds: bind, Args: ones[:1]}, {Kind: api.ExprHard, Binds: full, Args: ones[:1], Alts: alts},
		{Kind: api.ExprCase, Args: ones[:1]}, {Kind: api.ExprCase, Alts: alts}, {Kind: api.ExprCase, Args: ones[:2], Alts: alts}, {Kind: api.ExprCase, Args: ones[:1], Alts: alts, Binds: full}, {Kind: api.ExprCase, Args: ones[:1], Alts: alts, Name: "x"},
		{Kind: api.ExprOp, Name: "+", Args: ones}, {Kind: api.ExprOp, Name: "+", Args: ones[:1]}, {Kind: api.ExprOp, Args: ones[:2]}, {Kind: api.ExprOp, Name: "+", Args: ones[:2], Num: 1}, {Kind: api.ExprOp, Name: "+ ", Args: ones[:2]},
		{Kind: api.ExprSeq, Args: ones}, {Kind: api.ExprSeq}, {Kind: api.ExprSeq, Args: ones[:2], Name: "seq"}, {Kind: api.ExprSeq, Args: ones[:2], Binds: bind},
		{Kind: api.ExprFail, Num: 1}, {Kind: api.ExprFail, Num: 1, Types: []api.Type{integer, integer}}, {Kind: api.ExprFail, Num: 1, Types: []api.Type{integer}, Args: ones[:1]}, {Kind: api.ExprFail, Num: 1, Types: []api.Type{integer}, Name: "x"}, {Kind: api.ExprFail, Types: []api.Type{integer}},
		cases(num(1), api.Alt{Body: num(1)}), cases(num(1), api.Alt{Kind: 4, Body: num(1)}), cases(num(1), api.Alt{Kind: -1, Body: num(1)}),
		cases(num(1), api.Alt{Kind: api.AltInt, Con: "True", Body: num(1)}), cases(num(1), api.Alt{Kind: api.AltInt, Vars: []string{"x"}, Body: num(1)}), cases(num(1), altInt(api.MaxInt+1, num(1))), cases(num(1), altInt(api.MinInt-1, num(1))),
		cases(num(1), api.Alt{Kind: api.AltElse, Num: 1, Body: num(1)}), cases(num(1), api.Alt{Kind: api.AltElse, Con: "True", Body: num(1)}), cases(num(1), api.Alt{Kind: api.AltElse, Vars: []string{"x"}, Body: num(1)}),
		cases(con("True"), api.Alt{Kind: api.AltCon, Con: "True", Num: 1, Body: num(1)}), cases(num(1), api.Alt{Kind: api.AltElse}), cases(con("True"), altElse(num(1)), altCon("True", num(1))),
	} {
		checkCode(t, toldExpr(e), core.Check(one(integer, e)), api.ErrCoreForm)
		_, code := core.Type(api.Program{}, nil, e)
		checkCode(t, toldExpr(e), code, api.ErrCoreForm)
	}
	for _, e := range []api.Expr{num(api.MaxInt), num(api.MinInt), cases(num(1), altInt(api.MaxInt, num(1)), altInt(api.MinInt, num(1))), cases(con("True"), altCon("True", num(1)), altElse(num(1)))} {
		checkCode(t, toldExpr(e), core.Check(one(integer, e)), api.OK)
	}
	e := lam("x", integer, num(1)) // W5: empty lists are none
	e.Types, e.Alts, e.Binds[0].Value.Args, e.Binds[0].Type.Args = []api.Type{}, []api.Alt{}, []api.Expr{}, []api.Type{}
	checkCode(t, "empty lists", core.Check(one(typ("(Int -> Int)"), e)), api.OK)
}

// TestWrongDatas: P8.1: data types.
func TestWrongDatas(t *testing.T) {
	names := func(name string) api.Program {
		return api.Program{Datas: []api.Data{{Name: name, Cons: []api.Con{{Name: "c"}}}}}
	}
	params := func(l ...string) api.Program {
		return api.Program{Datas: []api.Data{{Name: "M.T", Params: l, Cons: []api.Con{{Name: "c"}}}}}
	}
	cons := func(name string) api.Program {
		return api.Program{Datas: []api.Data{{Name: "M.T", Cons: []api.Con{{Name: "c"}, {Name: name}}}}}
	}
	field := func(t api.Type) api.Program {
		return api.Program{Datas: []api.Data{{Name: "M.T", Params: []string{"a"}, Cons: []api.Con{{Name: "c", Fields: []api.Type{integer, t}}}}}}
	}
	for i, x := range []struct {
		p    api.Program
		want api.Errno
	}{
		{names("T"), api.OK}, {names("M.T'"), api.OK}, {names("Nil"), api.OK}, {names("c"), api.ErrCoreName}, {names(""), api.ErrCoreName}, {names("Int"), api.ErrCoreName}, {names("M."), api.ErrCoreName}, {names("M.t"), api.ErrCoreName}, {names("A.B.C"), api.ErrCoreName}, {names("(List a)"), api.ErrCoreName},
		{names("Bool"), api.ErrCoreData}, {names("Unit"), api.ErrCoreData}, {names("List"), api.ErrCoreData}, {names("Pair"), api.ErrCoreData}, {names("Triple"), api.ErrCoreData},
		{params("a", "b"), api.OK}, {params("A"), api.ErrCoreName}, {params("a", ""), api.ErrCoreName}, {params("Int"), api.ErrCoreName}, {params("a", "b", "a"), api.ErrCoreData}, {params("a", "a", "B"), api.ErrCoreName}, {params("(a -> b)"), api.ErrCoreName},
		{cons("d"), api.OK}, {cons("M.T"), api.OK}, {cons(`"\ `), api.OK}, {cons("Bool"), api.OK}, {cons("Int"), api.OK}, {cons(""), api.ErrCoreName}, {cons("\x1f"), api.ErrCoreName}, {cons("\x7f"), api.ErrCoreName}, {cons("\u00e9"), api.ErrCoreName}, {cons("c"), api.ErrCoreData}, {cons(" ~"), api.OK},
		{cons("False"), api.ErrCoreData}, {cons("True"), api.ErrCoreData}, {cons("Unit"), api.ErrCoreData}, {cons("Nil"), api.ErrCoreData}, {cons("Cons"), api.ErrCoreData}, {cons("Pair"), api.ErrCoreData}, {cons("Triple"), api.ErrCoreData},
		{field(variable("a")), api.OK}, {field(typ("(M.T (M.T a))")), api.OK}, {field(typ("(a -> (List a))")), api.OK}, {field(variable("b")), api.ErrCoreData}, {field(data("M.T")), api.ErrCoreData}, {field(data("M.U")), api.ErrCoreData}, {field(api.Type{}), api.ErrCoreData}, {field(data("Int")), api.ErrCoreData}, {field(api.Type{Kind: api.TyFun, Args: []api.Type{integer}}), api.ErrCoreData}, {field(api.Type{Kind: api.TyInt, Name: "Int"}), api.ErrCoreData}, {field(api.Type{Kind: api.TyVar, Name: "a", Args: []api.Type{integer}}), api.ErrCoreData}, {field(api.Type{Kind: api.TyFun, Name: "a", Args: []api.Type{integer, integer}}), api.ErrCoreData}, {field(api.Type{Kind: api.TyInt, Args: []api.Type{integer}}), api.ErrCoreData}, {field(api.Type{Kind: 5, Name: "a"}), api.ErrCoreData},
	} {
		if code := core.Check(x.p); code != x.want {
			t.Errorf("%d: %s: %v, want %v", i, told(x.p), code, x.want)
		}
	}
	for text, want := range map[string]api.Errno{
		`(data M.T () ("c" M.U)) (data M.U () ("d" M.T))`:               api.OK,
		`(data M.T () ("c")) (data M.T () ("d"))`:                       api.ErrCoreData,
		`(data M.T () ("c")) (data M.U () ("c"))`:                       api.ErrCoreData,
		`(data M.T () ("M.U")) (data M.U () ("M.T"))`:                   api.OK,
		`(data A (a) ("c" (B a a))) (data B (a b) ("d" (A b)))`:         api.OK,
		`(data A (a) ("c" (B a))) (data B (a b) ("d" (A b)))`:           api.ErrCoreData,
		`(data A () ("c" a)) (data B (a) ("d" a))`:                      api.ErrCoreData,
		`(data A () ("c")) (def "c" () A (con "c")) (def "A" () Int 1)`: api.OK,
	} {
		checkText(t, text, want)
	}
}

// TestWrongDefs: P8.1: definitions.
func TestWrongDefs(t *testing.T) {
	def := func(name string, t api.Type, params ...string) api.Program {
		return api.Program{Defs: []api.Def{{Name: name, Params: params, Type: t, Body: fail(1, t)}}}
	}
	for i, x := range []struct {
		p    api.Program
		want api.Errno
	}{
		{def("f", integer), api.OK}, {def(`\" (`, integer), api.OK}, {def("", integer), api.ErrCoreName}, {def("\x00", integer), api.ErrCoreName}, {def("a\n", integer), api.ErrCoreName}, {def("\x80", integer), api.ErrCoreName}, {def("+", integer), api.OK}, {def("Nil", integer), api.OK},
		{def("f", variable("a"), "a"), api.OK}, {def("f", variable("a"), "b"), api.ErrCoreType}, {def("f", integer, "a", "b", "c", "d", "e", "f", "g", "h"), api.OK}, {def("f", integer, "a", "a"), api.ErrCoreName}, {def("f", integer, "A"), api.ErrCoreName}, {def("f", integer, ""), api.ErrCoreName}, {def("f", integer, "a b"), api.ErrCoreName},
		{def("f", api.Type{}), api.ErrCoreType}, {def("f", data("M.T")), api.ErrCoreType}, {def("f", data("List")), api.ErrCoreType}, {def("f", api.Type{Kind: api.TyVar, Name: "A"}, "a"), api.ErrCoreType}, {def("f", api.Type{Kind: api.TyFun, Args: []api.Type{integer, integer, integer}}), api.ErrCoreType},
	} {
		if code := core.Check(x.p); code != x.want {
			t.Errorf("%d: %s: %v, want %v", i, told(x.p), code, x.want)
		}
	}
	for text, want := range map[string]api.Errno{
		`(def "f" () Int (global "g")) (def "g" () Int (global "f"))`:                                                      api.OK,
		`(def "f" (a) (a -> Int) (lam "x" a (app (global "g" a (List a)) "x"))) (def "g" (b c) (b -> Int) (global "f" b))`: api.OK,
		`(def "f" (a) (a -> Int) (lam "x" a (app (global "g" (List a) a) "x"))) (def "g" (b c) (b -> Int) (global "f" b))`: api.ErrCoreType,
		`(def "f" (a) a (global "g")) (def "g" () a 1)`:                                                                    api.ErrCoreType,
		`(def "f" (a b) (a -> b) (global "f" a b))`:                                                                        api.OK,
		`(def "f" (a b) (a -> b) (global "f" b a))`:                                                                        api.ErrCoreType,
		`(def "f" (a b) (a -> b) (global "g" (b -> a) a b)) (def "g" (x b a) (b -> a) (global "f" b a))`:                   api.OK,
		`(def "f" () Int 1) (def "g" () Int 1) (def "f" () Int 1)`:                                                         api.ErrCoreName,
		`(def "f" () Int (con "True"))`:                                                                                    api.ErrCoreType,
		`(def "f" (a) (a -> a) (lam "x" a 1))`:                                                                             api.ErrCoreType,
		`(def "f" () (Int -> Int) (lam "x" Int "x"))`:                                                                      api.OK,
		`(def "f" () (Pair Int Bool) (app (app (con "Pair" Int Bool) 1) (con "True"))) (def "g" () Unit (con "Unit"))`:     api.OK,
		`(def "f" () (Pair Int Bool) (app (app (con "Pair" Bool Int) (con "True")) 1))`:                                    api.ErrCoreType,
		`(def "f" () (Triple Int Bool Unit) (app (app (app (con "Triple" Int Bool Unit) 1) (con "False")) (con "Unit")))`:  api.OK,
	} {
		checkText(t, text, want)
	}
}

// TestOrder: P8.1: of two faults the one that is found first.
func TestOrder(t *testing.T) {
	for _, x := range []struct {
		text string
		want api.Errno
	}{
		{`(data M.T (a a) ("c")) (data M.U () ("d" b))`, api.ErrCoreData}, {`(data M.T () ("c" b)) (def "f" () Int "x")`, api.ErrCoreData}, {`(data M.T ()) (def "f" () Int "x")`, api.ErrCoreData},
		{`(def "f" () Int "x") (def "f" () Int 1)`, api.ErrCoreName}, {`(def "f" () Int (fail 9 Int)) (def "g" () M.T 1)`, api.ErrCoreType}, {`(def "g" () M.T 1) (def "f" () Int 1) (def "f" () Int 1)`, api.ErrCoreType}, {`(def "f" () Int 1) (def "f" () M.T 1)`, api.ErrCoreName}, {`(def "f" (a a) M.T 1)`, api.ErrCoreName},
		{`(def "f" () Bool 1) (def "g" () Int "x")`, api.ErrCoreType}, {`(def "f" () Int "x") (def "g" () Bool 1)`, api.ErrCoreName}, {`(def "f" () Bool (op + 1 "x"))`, api.ErrCoreName},
		{`(def "f" () Int (app 1 "x"))`, api.ErrCoreName}, {`(def "f" () Int (app "x" (fail 9 Int)))`, api.ErrCoreName}, {`(def "f" () Int (app (fail 9 Int) "x"))`, api.ErrCoreForm}, {`(def "f" () Int (app (app 1 2) "x"))`, api.ErrCoreType},
		{`(def "f" () Int (op + (con "True") "x"))`, api.ErrCoreName}, {`(def "f" () Int (op ++ "x" 1))`, api.ErrCoreForm}, {`(def "f" () Int (seq (fail 9 Int) "x"))`, api.ErrCoreForm}, {`(def "f" () Int (seq "x" (fail 9 Int)))`, api.ErrCoreName},
		{`(def "f" () Int (global "g" M.T))`, api.ErrCoreName}, {`(def "f" () Int (con "g" M.T))`, api.ErrCoreName},
		{`(def "f" () Int (lam "x" M.T "y"))`, api.ErrCoreType}, {`(def "f" () Int (lam "x" Int (lam "x" M.T 1)))`, api.ErrCoreName},
		{`(def "f" () Int (let (("x" Int "z") ("y" M.T 1)) 1))`, api.ErrCoreType}, {`(def "f" () Int (let (("x" M.T 1) ("x" Int 1)) 1))`, api.ErrCoreType}, {`(def "f" () Int (let (("x" Int 1) ("x" M.T 1)) 1))`, api.ErrCoreName}, {`(def "f" () Int (let (("x" Bool 1) ("y" Int "z")) 1))`, api.ErrCoreType}, {`(def "f" () Int (let (("y" Int "z") ("x" Bool 1)) 1))`, api.ErrCoreName}, {`(def "f" () Int (let (("x" Bool 1)) "z"))`, api.ErrCoreType}, {`(def "f" () Int (let (("x" Int (let (("y" Int 1)) 1)) ("y" M.T 1)) 1))`, api.ErrCoreType}, {`(def "f" () Int (let (("x" Int (let (("y" M.T 1)) 1)) ("y" Int 1)) 1))`, api.ErrCoreName},
		{`(def "f" () Int (hard "x" M.T "z" 1))`, api.ErrCoreType}, {`(def "f" () Int (hard "x" Bool 1 "z"))`, api.ErrCoreType}, {`(def "f" () Int (hard "x" Bool "z" (fail 9 Int)))`, api.ErrCoreName}, {`(def "f" () Int (hard "x" Bool (fail 9 Int) "z"))`, api.ErrCoreForm},
		{`(def "f" () Int (case (lam "x" Int 1) (else 1) (else "z")))`, api.ErrCoreType}, {`(def "f" () Int (case "z" (else 1) (else 1)))`, api.ErrCoreName}, {`(def "f" () Int (case 1 (int 1 "z") (int 1 2)))`, api.ErrCoreName}, {`(def "f" () Int (case 1 (int 1 2) (int 1 "z")))`, api.ErrCoreForm}, {`(def "f" () Int (case 1 (int 1 2) (else (con "True")) (else 1)))`, api.ErrCoreForm}, {`(def "f" () Int (case 1 (int 1 2) (int 2 (con "True")) (int 2 "z")))`, api.ErrCoreType},
		{`(def "f" () Int (case 1 (con "nobody" () 1)))`, api.ErrCoreForm}, {`(def "f" () Int (case (con "True") (con "nobody" ("x" "x") 1)))`, api.ErrCoreName}, {`(def "f" () Int (case (con "True") (con "True" ("x" "x") 1)))`, api.ErrCoreForm}, {`(def "f" () Int (case (con "Nil" Int) (con "Cons" ("x" "x") (fail 9 Int))))`, api.ErrCoreName}, {`(def "f" () Int (case (con "True") (con "True" () 1) (con "True" ("x") "z")))`, api.ErrCoreForm},
	} {
		checkText(t, x.text, x.want)
	}
	long := strings.Repeat("n", api.MaxName+1)
	deep, big := chain(api.MaxDeep+1), make([]api.Type, api.MaxCore)
	for i, x := range []struct {
		p    api.Program
		want api.Errno
	}{
		{api.Program{Datas: []api.Data{{Name: "bool"}}, Defs: one(integer, deep).Defs}, api.ErrNest},
		{api.Program{Datas: []api.Data{{Name: "T", Cons: []api.Con{{Fields: big}}}}, Defs: one(integer, deep).Defs}, api.ErrBig},
		{api.Program{Datas: []api.Data{{Name: "Bool", Cons: []api.Con{{Name: long}}}}}, api.ErrCoreName},
		{api.Program{Datas: []api.Data{{Name: "Bool", Params: []string{"A"}}}}, api.ErrCoreName},
		{api.Program{Datas: []api.Data{{Name: "Bool"}, {Name: "bool"}}}, api.ErrCoreData},
		{api.Program{Datas: []api.Data{{Name: "T", Cons: []api.Con{{Name: "c", Fields: []api.Type{{}}}}}, {Name: "bool"}}}, api.ErrCoreName},
		{api.Program{Datas: []api.Data{{Name: "T", Cons: []api.Con{{Name: "c", Fields: []api.Type{{}}}}}}, Defs: []api.Def{{}}}, api.ErrCoreData},
		{api.Program{Defs: []api.Def{{}}}, api.ErrCoreName},
		{api.Program{Defs: []api.Def{{Name: "f"}, {}}}, api.ErrCoreType},
		{one(integer, lam(long, api.Type{}, local("x"))), api.ErrCoreName},
		{one(integer, lam("y", api.Type{}, local("x"))), api.ErrCoreType},
		{one(integer, cases(num(1), api.Alt{Kind: 7, Body: local("x")})), api.ErrCoreForm},
		{one(integer, cases(con("Nil", integer), altCon("Cons", local("z"), "x", ""))), api.ErrCoreName},
		{one(integer, cases(con("Nil", integer), altCon("Cons", api.Expr{}, "x", "é"))), api.ErrCoreName},
	} {
		if code := core.Check(x.p); code != x.want {
			t.Errorf("%d: %v, want %v", i, code, x.want)
		}
	}
}
