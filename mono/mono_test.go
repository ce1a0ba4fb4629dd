package mono_test

import (
	"strings"
	"testing"

	"sloth/api"
	"sloth/types"
)

const (
	id   = `(def "id" (a) (a -> a) (lam "x" a "x"))`
	inc  = `(def "f" () (Int -> Int) (lam "x" Int (op + "x" 1)))`
	any3 = `(def "any" (a) a (fail 1 a)) (def "any2" (a b) a (seq (global "any" b) (global "any" a)))` // of every type
)

// TestExamples: the chapter's table.
func TestExamples(t *testing.T) {
	main := id + def("main", `(app (global "id" Int) 3)`)
	checkMade(t, main, "main", def("main", `(app (global "id{Int}") 3)`)+`(def "id{Int}" () (Int -> Int) (lam "x" Int "x"))`)
	checkMade(t, main, "id", `(def "id{Unit}" () (Unit -> Unit) (lam "x" Unit "x"))`)
	checkCode(t, "nothing", read(t, main), "nothing", api.ErrMonoEntry)
	twice := `(def "twice" (a) ((a -> a) -> (a -> a)) (lam "f" (a -> a) (lam "x" a (app "f" (app "f" "x")))))`
	checkMade(t, inc+`(def "main" () (Int -> Int) (app (global "twice" Int) (app (global "twice" Int) (global "f"))))`+twice, "main",
		`(def "main" () (Int -> Int) (app (global "twice{Int}") (app (global "twice{Int}") (global "f"))))
		(def "twice{Int}" () ((Int -> Int) -> (Int -> Int)) (lam "f" (Int -> Int) (lam "x" Int (app "f" (app "f" "x")))))`+inc)
	nest := `(def "nest" (a) (a -> Int) (lam "x" a (app (global "nest" (List a)) (con "Nil" a))))` + def("main", `(app (global "nest" Int) 1)`)
	checkCode(t, "nest", read(t, nest), "main", api.ErrBig)
	checkCode(t, "two of one name", read(t, main+def("id{Int}", "1")+def("both", `(app (global "id" Int) (global "id{Int}"))`)), "both", api.ErrMonoName)
	checkCode(t, "two of one name", read(t, main+def("id{Int}", "1")+def("both", `(op + (global "id{Int}") (app (global "id" Int) 1))`)), "both", api.ErrMonoName)
	checkNames(t, main+def("id{Int}", "1"), "main", "main id{Int}")
	checkNames(t, main+def("id{Int}", "1")+def("one", `(op + (global "id{Int}") (case (app (global "id" Bool) (con "True")) (else 1)))`), "one", "one id{Int} id{Bool}")
}

// TestEntry: P12.1: Unit stands for each of the entry's parameters, wherever the entry stands among the definitions.
func TestEntry(t *testing.T) {
	all := def("first", "1") + any3 + `(def "pair" (x y z) (x -> (Pair y Int)) (lam "p" x (global "any2" (Pair y Int) x)))` + def("last", `(global "first")`)
	checkMade(t, all, "first", def("first", "1"))
	checkMade(t, all, "last", def("last", `(global "first")`)+def("first", "1"))
	checkMade(t, all, "any", `(def "any{Unit}" () Unit (fail 1 Unit))`)
	checkMade(t, all, "any2", `(def "any2{Unit,Unit}" () Unit (seq (global "any{Unit}") (global "any{Unit}"))) (def "any{Unit}" () Unit (fail 1 Unit))`)
	checkMade(t, all, "pair", `(def "pair{Unit,Unit,Unit}" () (Unit -> (Pair Unit Int)) (lam "p" Unit (global "any2{(Pair Unit Int),Unit}")))
		(def "any2{(Pair Unit Int),Unit}" () (Pair Unit Int) (seq (global "any{Unit}") (global "any{(Pair Unit Int)}"))) (def "any{Unit}" () Unit (fail 1 Unit)) (def "any{(Pair Unit Int)}" () (Pair Unit Int) (fail 1 (Pair Unit Int)))`)
	// a parameter that stands nowhere; an entry that needs itself, at other types and at the same; a type that a source calls Unit is none of its own
	checkMade(t, `(def "no" (a) Int 1)`, "no", def("no{Unit}", "1"))
	checkNames(t, `(def "self" (a) Int (op + (global "self" Int) (global "self" Unit)))`, "self", "self{Unit} self{Int}")
	checkNames(t, `(data M.Unit () ("M.Unit")) (def "self" (a) Int (op + (global "self" M.Unit) (global "self" Unit)))`, "self", "self{Unit} self{M.Unit}")
	// constructors and locals are no definitions; names are taken byte by byte
	for _, entry := range []string{"", "Nil", "True", "p", "Int", "first ", "First", "any{Unit}", "any2{Unit,Unit}", "\x00", strings.Repeat("x", api.MaxName+1)} {
		checkCode(t, entry, read(t, all), entry, api.ErrMonoEntry)
	}
}

// TestSeveral: a definition is there once for each list of types with which it is needed, from however many places.
func TestSeveral(t *testing.T) {
	checkMade(t, any3+`(def "main" () (Pair (List Bool) (Pair Int (List Bool))) (app (app (con "Pair" (List Bool) (Pair Int (List Bool))) (global "any" (List Bool))) (app (app (con "Pair" Int (List Bool)) (global "any" Int)) (global "any" (List Bool)))))`, "main",
		`(def "main" () (Pair (List Bool) (Pair Int (List Bool))) (app (app (con "Pair" (List Bool) (Pair Int (List Bool))) (global "any{(List Bool)}")) (app (app (con "Pair" Int (List Bool)) (global "any{Int}")) (global "any{(List Bool)}"))))
		(def "any{(List Bool)}" () (List Bool) (fail 1 (List Bool))) (def "any{Int}" () Int (fail 1 Int))`)
	main := def("main", sum(`(global "any2" Int Bool)`, `(global "other")`, `(seq (global "any2" Bool Int) 1)`, `(global "any2" Int Bool)`, `(global "any2" Int Int)`)) + def("other", sum(`(global "any2" Int Bool)`, `(global "any" Int)`, `(global "main")`))
	checkNames(t, any3+main, "main", "main any2{Int,Bool} other any2{Bool,Int} any2{Int,Int} any{Bool} any{Int}")
	checkNames(t, any3+main, "other", "other any2{Int,Bool} any{Int} main any{Bool} any2{Bool,Int} any2{Int,Int}")
	// types that are the same, though one was put together of parameters
	checkNames(t, any3+`(def "l" (a) Int (seq (global "any" (List a)) (seq (global "any" (a -> Int)) 1)))`+def("main", `(seq (global "any" (List (List Int))) (seq (global "l" (List Int)) (seq (global "any" ((List Int) -> Int)) 1)))`), "main",
		"main any{(List (List Int))} l{(List Int)} any{((List Int) -> Int)}")
	// parameters that stand nowhere tell instances apart
	checkNames(t, `(def "no" (a b) Int 1)`+def("main", sum(`(global "no" Int Bool)`, `(global "no" Bool Int)`, `(global "no" Int Bool)`, `(global "no" Int (List Bool))`)), "main", "main no{Int,Bool} no{Bool,Int} no{Int,(List Bool)}")
}

// TestRings: definitions that need themselves, and one another, at the same types and at others.
func TestRings(t *testing.T) {
	checkMade(t, `(def "r" () (Int -> Int) (lam "x" Int (app (global "r") "x")))`, "r", `(def "r" () (Int -> Int) (lam "x" Int (app (global "r") "x")))`)
	checkMade(t, `(def "len" (a) ((List a) -> Int) (lam "l" (List a) (case "l" (con "Nil" () 0) (con "Cons" ("x" "t") (op + 1 (app (global "len" a) "t"))))))`+def("main", `(app (global "len" Bool) (con "Nil" Bool))`), "main",
		def("main", `(app (global "len{Bool}") (con "Nil" Bool))`)+`(def "len{Bool}" () ((List Bool) -> Int) (lam "l" (List Bool) (case "l" (con "Nil" () 0) (con "Cons" ("x" "t") (op + 1 (app (global "len{Bool}") "t"))))))`)
	flip := `(def "flip" (a b) (a -> (b -> Int)) (lam "x" a (lam "y" b (app (app (global "flop" b (List b) a) "y") "x")))) (def "flop" (a c b) (a -> (b -> Int)) (lam "x" a (lam "y" b (app (app (global "flip" a b) "x") "y"))))`
	checkMade(t, flip+def("main", `(app (app (global "flip" Int Bool) 1) (con "True"))`), "main", def("main", `(app (app (global "flip{Int,Bool}") 1) (con "True"))`)+
		`(def "flip{Int,Bool}" () (Int -> (Bool -> Int)) (lam "x" Int (lam "y" Bool (app (app (global "flop{Bool,(List Bool),Int}") "y") "x"))))
		(def "flop{Bool,(List Bool),Int}" () (Bool -> (Int -> Int)) (lam "x" Bool (lam "y" Int (app (app (global "flip{Bool,Int}") "x") "y"))))
		(def "flip{Bool,Int}" () (Bool -> (Int -> Int)) (lam "x" Bool (lam "y" Int (app (app (global "flop{Int,(List Int),Bool}") "y") "x"))))
		(def "flop{Int,(List Int),Bool}" () (Int -> (Bool -> Int)) (lam "x" Int (lam "y" Bool (app (app (global "flip{Int,Bool}") "x") "y"))))`)
	checkNames(t, flip, "flip", "flip{Unit,Unit} flop{Unit,(List Unit),Unit}")
	ring := def("a", `(global "b")`) + def("b", `(global "c")`) + def("c", `(op + (global "a") (global "c"))`)
	checkNames(t, ring, "a", "a b c")
	checkNames(t, ring, "b", "b c a")
	checkNames(t, ring, "c", "c a b")
}

// TestOrder: an instance lays what it needs from the outside on, Values ahead of Args ahead of Bodies of alternatives; those ahead in the row lay first.
func TestOrder(t *testing.T) {
	letters := ""
	for _, c := range "abcdefghijklmnop" {
		letters += def(string(c), "1")
	}
	letters += `(def "F" () (Int -> Int) (lam "x" Int (global "q"))) (def "q" () Int 2)`
	for _, x := range []struct{ body, want string }{
		{`(app (global "F") (global "a"))`, "F a q"},
		{`(app (lam "x" Int (global "b")) (global "a"))`, "b a"},
		{`(let (("x" Int (global "c")) ("y" Int (global "a"))) (global "b"))`, "c a b"},
		{`(case (global "d") (int 1 (global "c")) (int 0 (global "a")) (else (global "b")))`, "d c a b"},
		{`(op + (global "b") (global "a"))`, "b a"},
		{`(seq (global "b") (global "a"))`, "b a"},
		{`(hard "x" Int (global "b") (global "a"))`, "b a"},
		{`(op + (let (("x" Int (case (global "f") (int 2 (global "h")) (else (global "c"))))) (seq (global "g") (global "e"))) (global "a"))`, "f h c g e a"},
		{`(case (let (("x" Int (hard "y" Int (global "p") (global "o")))) (global "n")) (int 3 (case (global "m") (else (global "l")))) (else (let (("z" Int (global "k"))) (case (con "Nil" Int) (con "Nil" () (global "j")) (con "Cons" ("u" "v") (global "i"))))))`, "p o n m l k j i"},
		{`(op + (op + (global "a") (global "b")) (op + (global "a") (op + (global "c") (global "b"))))`, "a b c"},
		{`(global "main")`, ""},
	} {
		checkNames(t, def("main", x.body)+letters, "main", strings.TrimSpace("main "+x.want))
		checkNames(t, letters+def("main", x.body), "main", strings.TrimSpace("main "+x.want))
	}
	// in turn: what the first needs stands ahead of what those need, whatever is met deeper
	checkNames(t, def("main", `(op + (global "x") (global "y"))`)+def("x", `(op + (global "u") (global "main"))`)+def("y", `(op + (global "v") (global "u"))`)+def("v", `(global "w")`)+def("u", `(global "z")`)+def("w", "1")+def("z", "2"), "main", "main x y u v z w")
}

// TestTypes: P12.1: a parameter gives place wherever a type stands.
func TestTypes(t *testing.T) {
	const data = `(data M.T (a b) ("M.A") ("M.B" (b -> a) (M.T b a)))`
	general := `(def "g" (t1 t2) (t1 -> (t2 -> (Pair t1 (List t2))))
		(lam "x" t1 (lam "y" t2
			(let (("l" (List (t1 -> t2)) (con "Nil" (t1 -> t2))) ("m" (M.T t1 (List t2)) (con "M.A" t1 (List t2))) ("n" Int (op + 1 -2)))
				(hard "h" (Pair t2 t1) (app (app (con "Pair" t2 t1) "y") "x")
					(case "m"
						(con "M.A" () (seq (fail 3 (Triple t1 t2 Int)) (app (app (global "g" t1 t2) "x") "y")))
						(con "M.B" ("u" "v") (app (app (con "Pair" t1 (List t2)) (global "any2" t1 (t2 -> (List t1)))) (case (global "any" (M.T t2 Bool)) (else (con "Nil" t2)))))))))))`
	special := func(name, t1, t2 string) string {
		return strings.NewReplacer(`"g" (t1 t2)`, `"`+name+`" ()`, `"g" t1 t2`, `"`+name+`"`,
			`"any2" t1 (t2 -> (List t1))`, `"any2{`+t1+`,(`+t2+` -> (List `+t1+`))}"`, `"any" (M.T t2 Bool)`, `"any{(M.T `+t2+` Bool)}"`, "t1", t1, "t2", t2).Replace(general)
	}
	main := `(def "main" () Int (seq (global "g" Int Bool) (seq (global "g" (List Bool) (Int -> Int)) 1)))`
	checkMade(t, data+general+any3+main, "main", data+`(def "main" () Int (seq (global "g{Int,Bool}") (seq (global "g{(List Bool),(Int -> Int)}") 1)))`+special("g{Int,Bool}", "Int", "Bool")+special("g{(List Bool),(Int -> Int)}", "(List Bool)", "(Int -> Int)")+
		`(def "any2{Int,(Bool -> (List Int))}" () Int (seq (global "any{(Bool -> (List Int))}") (global "any{Int}")))
		(def "any{(M.T Bool Bool)}" () (M.T Bool Bool) (fail 1 (M.T Bool Bool)))
		(def "any2{(List Bool),((Int -> Int) -> (List (List Bool)))}" () (List Bool) (seq (global "any{((Int -> Int) -> (List (List Bool)))}") (global "any{(List Bool)}")))
		(def "any{(M.T (Int -> Int) Bool)}" () (M.T (Int -> Int) Bool) (fail 1 (M.T (Int -> Int) Bool)))
		(def "any{(Bool -> (List Int))}" () (Bool -> (List Int)) (fail 1 (Bool -> (List Int))))
		(def "any{Int}" () Int (fail 1 Int))
		(def "any{((Int -> Int) -> (List (List Bool)))}" () ((Int -> Int) -> (List (List Bool))) (fail 1 ((Int -> Int) -> (List (List Bool)))))
		(def "any{(List Bool)}" () (List Bool) (fail 1 (List Bool)))`)
	// all at one time: what is put has no parameters, whatever they are called; a parameter may be called as another definition's is
	checkMade(t, `(def "s" (a b) (Pair b a) (app (app (con "Pair" b a) (global "t" b a)) (global "t" a b))) (def "t" (b a) b (fail 2 b))`+`(def "main" () (Pair Int Bool) (global "s" Bool Int))`, "main",
		`(def "main" () (Pair Int Bool) (global "s{Bool,Int}")) (def "s{Bool,Int}" () (Pair Int Bool) (app (app (con "Pair" Int Bool) (global "t{Int,Bool}")) (global "t{Bool,Int}"))) (def "t{Int,Bool}" () Int (fail 2 Int)) (def "t{Bool,Int}" () Bool (fail 2 Bool))`)
}

// TestTitles: the names of instances, by types.Print.
func TestTitles(t *testing.T) {
	const data = `(data M.T (a b c d e f) ("M.A")) (data E'_9 () ("E"))`
	list := []string{"Int", "Bool", "Unit", "E'_9", "(List Int)", "(Int -> Int)", "((Int -> Bool) -> (Int -> (Int -> Int)))", "(Pair Int (List E'_9))", "(Triple Int Bool (Int -> Unit))", "(M.T Int Bool Unit (List (List Int)) (Pair Int Int) (Int -> Int))", "(List (Pair (List Int) (Bool -> (List Unit))))"}
	for _, name := range []string{"f", "M.map", "a b", "{", "}", "{}", "f{Int", `"\`, ",", "f{Int}", "~"} {
		quoted := strings.NewReplacer(`\`, `\\`, `"`, `\"`).Replace(name)
		for i, text := range list {
			other := list[(i*7+3)%len(list)]
			printed, code := types.Print(typ(text))
			if code != api.OK || printed != text {
				t.Fatal("the test is wrong:", text)
			}
			one := data + `(def "` + quoted + `" (x) Int 1)` + def("main", `(global "`+quoted+`" `+text+`)`)
			checkNames(t, one, "main", "main "+name+"{"+text+"}")
			two := data + `(def "` + quoted + `" (x y) Int 1)` + `(def "by" (a y) Int (global "` + quoted + `" y a))` + def("main", `(global "by" `+text+` `+other+`)`)
			checkNames(t, two, "main", "main by{"+text+","+other+"} "+name+"{"+other+","+text+"}")
			three := data + `(def "` + quoted + `" (x y z) Int 1)` + `(def "by" (a y) Int (global "` + quoted + `" (a -> (List y)) Int (M.T y Int a Int a y)))` + def("main", `(global "by" `+text+` `+other+`)`)
			checkNames(t, three, "main", "main by{"+text+","+other+"} "+name+"{("+text+" -> (List "+other+")),Int,(M.T "+other+" Int "+text+" Int "+text+" "+other+")}")
		}
	}
}

// TestKept: P12.2: data types stay, needed or not, and so do local names, whatever else is called so.
func TestKept(t *testing.T) {
	const datas = `(data M.T (a b) ("M.A") ("M.B" (b -> a) (M.T b a))) (data M.E () ("M.R") ("M.G" Int)) (data A (z) ("only" (A (A z))))`
	checkMade(t, datas+def("main", "1"), "main", datas+def("main", "1"))
	checkMade(t, datas+`(def "f" (a) (a -> a) (lam "f{Int}" a (let (("a" a "f{Int}") ("f" Int 1)) (case (con "M.R") (con "M.G" ("main") "a") (else (app (global "f" a) "a"))))))`+def("main", `(hard "f" Int 2 (app (global "f" Int) "f"))`), "main",
		datas+def("main", `(hard "f" Int 2 (app (global "f{Int}") "f"))`)+`(def "f{Int}" () (Int -> Int) (lam "f{Int}" Int (let (("a" Int "f{Int}") ("f" Int 1)) (case (con "M.R") (con "M.G" ("main") "a") (else (app (global "f{Int}") "a"))))))`)
}
