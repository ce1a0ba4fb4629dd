package simplify_test

import (
	"strings"
	"testing"

	"sloth/api"
)

// hand is what the programs of the tests by hand have beside main. No round changes it.
const hand = `
(data M.T (a b) ("M.L") ("M.N" a (List b) (a -> b)))
(data M.E () ("M.R") ("M.G") ("M.I" Int))
(def "id" (a) (a -> a) (lam "x" a "x"))
(def "twice" (a) ((a -> a) -> (a -> a)) (lam "f" (a -> a) (lam "x" a (app "f" (app "f" "x")))))
(def "k" (a b) (a -> (b -> a)) (lam "x" a (lam "y" b "x")))
(def "swap" (a b) ((Pair a b) -> (Pair b a)) (lam "p" (Pair a b) (case "p" (con "Pair" ("x" "y") (app (app (con "Pair" b a) "y") "x")))))
(def "f" () (Int -> Int) (lam "n" Int (op + (app (global "g") "n") 1)))
(def "g" () (Int -> Int) (lam "n" Int (app (global "f") "n")))
(def "self" (a) (a -> a) (lam "x" a (app (global "self" a) "x")))
(def "five" () Int 5)
(def "ones" () (List Int) (app (app (con "Cons" Int) 1) (global "ones")))
(def "inc" () (Int -> Int) (app (global "add") 1))
(def "add" () (Int -> (Int -> Int)) (lam "x" Int (lam "y" Int (op + "x" "y"))))
(def "late" () (Int -> (Int -> Int)) (lam "x" Int (let (("z" Int (app (global "f") "x"))) (lam "y" Int (op + "z" "y")))))
`

func handProgram(t *testing.T, typ, body string) api.Program {
	t.Helper()
	return read(t, hand+`(def "main" () `+typ+` `+body+`)`)
}

// checkRounds: main comes to each of these texts in its round, and stays the last one, but if that is "..".
func checkRounds(t *testing.T, typ, body string, want ...string) {
	t.Helper()
	p := handProgram(t, typ, body)
	checkSame(t, p, 0, p)
	for rounds := 1; rounds <= api.MaxRounds && !t.Failed(); rounds++ {
		text := want[min(rounds, len(want))-1]
		if text == ".." {
			return
		}
		checkSame(t, p, rounds, handProgram(t, typ, text))
	}
}

type example struct {
	typ, body string
	want      []string
}

func checkExamples(t *testing.T, l []example) {
	t.Helper()
	for _, x := range l {
		t.Run(x.body, func(t *testing.T) { checkRounds(t, x.typ, x.body, x.want...) })
	}
}

// stays is an expression that no round changes.
func stays(typ, body string) example { return example{typ, body, []string{body}} }

// becomes is one that a round makes what it stays then.
func becomes(typ, body string, want ...string) example { return example{typ, body, want} }

// TestExamples: those of the chapter.
func TestExamples(t *testing.T) {
	checkExamples(t, []example{
		becomes("Int", `(app (lam "x" Int (op + "x" 1)) 2)`, `(let (("x" Int 2)) (op + "x" 1))`, `(op + 2 1)`, `3`),
		becomes("Int", `(case (app (app (con "Cons" Int) 1) (con "Nil" Int)) (con "Nil" () 0) (con "Cons" ("a" "b") "a"))`, `(let (("a" Int 1) ("b" (List Int) (con "Nil" Int))) "a")`, `(let (("a" Int 1)) "a")`, `1`),
		becomes("Int", `(app (global "id" Int) (op * 2 3))`, `(app (lam "y" Int "y") 6)`, `(let (("y" Int 6)) "y")`, `6`),
		becomes("Int", `(case 5 (int 4 1))`, `(fail 2 Int)`),
		becomes("Int", `(let (("x" Int (op / 1 0))) 5)`, `5`),
		becomes("Int", `(let (("x" Int (app (global "f") 1))) (op + "x" 2))`, `(op + (app (global "f") 1) 2)`),
		stays("(Int -> Int)", `(let (("x" Int (app (global "f") 1))) (lam "y" Int (op + "x" "y")))`),
		stays("Int", `(let (("x" Int (app (global "f") 1))) (op + "x" "x"))`),
		becomes("Int", `(let (("x" Int "y") ("y" Int "x")) 7)`, `7`),
		becomes("Int", `(seq (app (app (con "Cons" Int) (fail 1 Int)) (con "Nil" Int)) 1)`, `1`),
		stays("Int", `(seq (op / 1 0) 1)`),
		becomes("Int", `(app (app (global "twice" Int) (global "id" Int)) 3)`,
			`(app (app (lam "f" (Int -> Int) (lam "x" Int (app "f" (app "f" "x")))) (global "id" Int)) 3)`,
			`(let (("f" (Int -> Int) (global "id" Int))) (app (lam "x" Int (app "f" (app "f" "x"))) 3))`,
			// the call of the lambda within; then the atom
			`(let (("x" Int 3)) (app (global "id" Int) (app (global "id" Int) "x")))`,
			// both calls get their copies, and the atom is put inside
			`(app (lam "a" Int "a") (app (lam "b" Int "b") 3))`,
			`(let (("a" Int (let (("b" Int 3)) "b"))) "a")`, `3`),
		becomes("Int", `(app (let (("x" Int (app (global "f") 1))) (lam "y" Int "x")) 2)`, `(let (("x" Int (app (global "f") 1))) (app (lam "y" Int "x") 2))`, `(let (("y" Int 2)) (app (global "f") 1))`, `(app (global "f") 1)`),
	})
}

// TestCalls: rules 1, 2, 3: a lambda, a let, something stuck, applied.
func TestCalls(t *testing.T) {
	checkExamples(t, []example{
		// 1
		becomes("Int", `(app (lam "x" Int 5) (fail 1 Int))`, `(let (("x" Int (fail 1 Int))) 5)`, `5`),
		becomes("Int", `(app (app (lam "x" Int (lam "y" Int (op - "x" "y"))) 9) 2)`, `(let (("x" Int 9)) (app (lam "y" Int (op - "x" "y")) 2))`, `(let (("y" Int 2)) (op - 9 "y"))`, `(op - 9 2)`, `7`),
		becomes("(Int -> Int)", `(app (lam "x" Int (lam "y" Int (op - "x" "y"))) 9)`, `(let (("x" Int 9)) (lam "y" Int (op - "x" "y")))`, `(lam "y" Int (op - 9 "y"))`),
		becomes("Int", `(app (lam "h" (Int -> Int) (app "h" 1)) (lam "y" Int "y"))`, `(let (("h" (Int -> Int) (lam "y" Int "y"))) (app "h" 1))`, `(app (lam "y" Int "y") 1)`, `(let (("y" Int 1)) "y")`, `1`),
		stays("((Int -> Int) -> Int)", `(lam "h" (Int -> Int) (app "h" 1))`),
		stays("(Int -> Int)", `(lam "x" Int (app (case "x" (int 1 (lam "y" Int "y")) (else (global "inc"))) 2))`),
		stays("Int", `(app (hard "x" Int (app (global "f") 1) (lam "y" Int "x")) 2)`),
		// 2: with all its Binds; one let within the other
		becomes("Int", `(app (let (("x" Int (app (global "f") 1)) ("y" (Int -> Int) (lam "z" Int (op + (app "y" "x") "x")))) (lam "w" Int (app "y" (op + "w" "w")))) (op + 1 1))`,
			`(let (("x" Int (app (global "f") 1)) ("y" (Int -> Int) (lam "z" Int (op + (app "y" "x") "x")))) (app (lam "w" Int (app "y" (op + "w" "w"))) 2))`,
			`(let (("x" Int (app (global "f") 1)) ("y" (Int -> Int) (lam "z" Int (op + (app "y" "x") "x")))) (let (("w" Int 2)) (app "y" (op + "w" "w"))))`,
			`(let (("x" Int (app (global "f") 1)) ("y" (Int -> Int) (lam "z" Int (op + (app "y" "x") "x")))) (app "y" (op + 2 2)))`,
			`(let (("x" Int (app (global "f") 1)) ("y" (Int -> Int) (lam "z" Int (op + (app "y" "x") "x")))) (app "y" 4))`),
		// the inner call moves into the let, the outer one does so at once, as it stands around a let now
		becomes("Int", `(app (app (let (("x" Int (app (global "f") 1))) (lam "y" Int (lam "z" Int (op + "x" "x")))) 2) 3)`,
			`(let (("x" Int (app (global "f") 1))) (app (app (lam "y" Int (lam "z" Int (op + "x" "x"))) 2) 3))`,
			`(let (("x" Int (app (global "f") 1))) (let (("y" Int 2)) (app (lam "z" Int (op + "x" "x")) 3)))`,
			// inside: the call within becomes a let, and then y is not needed
			`(let (("x" Int (app (global "f") 1))) (let (("z" Int 3)) (op + "x" "x")))`,
			`(let (("x" Int (app (global "f") 1))) (op + "x" "x"))`),
		// 3: the type is what the function answers
		becomes("Int", `(app (fail 1 (Bool -> Int)) (con "True"))`, `(fail 1 Int)`),
		becomes("Int", `(app (app (fail 4 (Bool -> (Int -> Int))) (con "True")) (fail 2 Int))`, `(fail 4 Int)`),
		becomes("(Int -> (List Int))", `(app (fail 3 (Bool -> (Int -> (List Int)))) (con "True"))`, `(fail 3 (Int -> (List Int)))`),
		stays("(Int -> Int)", `(lam "x" Int (app (global "f") (fail 1 Int)))`),
		becomes("Int", `(app (lam "y" Int (app (global "f") "y")) (fail 1 Int))`, `(let (("y" Int (fail 1 Int))) (app (global "f") "y"))`, `(app (global "f") (fail 1 Int))`),
	})
}

// TestCases: rules 5 to 8: a case of what is known.
func TestCases(t *testing.T) {
	checkExamples(t, []example{
		// 5: without fields, with fields, the else, none
		becomes("Int", `(case (con "True") (con "False" () 1) (con "True" () 2) (else 3))`, `2`),
		becomes("Int", `(case (con "True") (con "False" () 1) (else 3))`, `3`),
		becomes("Int", `(case (con "True") (else 3))`, `3`),
		becomes("(List Bool)", `(case (con "True") (con "False" () (con "Nil" Bool)))`, `(fail 2 (List Bool))`),
		becomes("Int", `(case (app (app (con "Pair" Int Bool) (app (global "f") 1)) (con "True")) (con "Pair" ("x" "y") (op + "x" "x")))`, `(let (("x" Int (app (global "f") 1)) ("y" Bool (con "True"))) (op + "x" "x"))`, `(let (("x" Int (app (global "f") 1))) (op + "x" "x"))`),
		becomes("Int", `(case (app (app (con "Pair" Int Bool) (app (global "f") 1)) (con "True")) (else 4))`, `4`),
		becomes("(Int -> Int)", `(case (app (con "M.I") 1) (con "M.R" () (lam "x" Int "x")) (con "M.G" () (global "inc")))`, `(fail 2 (Int -> Int))`),
		becomes("Int", `(case (con "Nil" Int) (con "Cons" ("x" "y") "x"))`, `(fail 2 Int)`),
		// the fields' types are those at the constructor's Types
		becomes("Bool", `(case (app (app (app (con "M.N" (List Int) Bool) (fail 1 (List Int))) (con "Nil" Bool)) (lam "l" (List Int) (con "True"))) (con "M.L" () (con "False")) (con "M.N" ("x" "y" "h") (app "h" "x")))`,
			`(let (("x" (List Int) (fail 1 (List Int))) ("y" (List Bool) (con "Nil" Bool)) ("h" ((List Int) -> Bool) (lam "l" (List Int) (con "True")))) (app "h" "x"))`,
			`(let (("x" (List Int) (fail 1 (List Int))) ("h" ((List Int) -> Bool) (lam "l" (List Int) (con "True")))) (app "h" "x"))`,
			`(let (("h" ((List Int) -> Bool) (lam "l" (List Int) (con "True")))) (app "h" (fail 1 (List Int))))`,
			`(app (lam "l" (List Int) (con "True")) (fail 1 (List Int)))`,
			`(let (("l" (List Int) (fail 1 (List Int)))) (con "True"))`, `(con "True")`),
		// what is looked at is made simpler first: then the case is known
		becomes("Int", `(case (op < 1 2) (con "False" () 1) (con "True" () 2))`, `2`),
		becomes("Int", `(case (case 1 (int 1 (con "M.G")) (else (con "M.R"))) (con "M.G" () 7) (con "M.R" () 8) (con "M.I" ("n") "n"))`, `7`),
		// not known
		stays("((List Int) -> Int)", `(lam "l" (List Int) (case "l" (con "Cons" ("x" "y") "x")))`),
		stays("Int", `(case (global "ones") (con "Cons" ("x" "y") "x"))`),
		stays("Int", `(case (global "five") (int 5 1))`),
		stays("Int", `(case (op / 1 0) (int 5 1))`),
		stays("Int", `(case (hard "x" Int (global "five") 3) (int 3 1))`),
		stays("Int", `(case (case (global "five") (int 5 4)) (int 4 1))`),
		// 6
		becomes("Int", `(case 4 (int 4 1) (else 2))`, `1`),
		becomes("Int", `(case 5 (int 4 1) (else 2))`, `2`),
		becomes("Int", `(case 5 (int 4 1) (int 6 2) (int 5 3))`, `3`),
		becomes("Int", `(case -4611686018427387904 (int 4611686018427387903 1) (int -4611686018427387904 2) (int 0 3))`, `2`),
		becomes("Int", `(case 0 (int 0 (global "five")))`, `(global "five")`),
		becomes("Bool", `(case 5 (int 4 (con "True")) (int 6 (con "False")))`, `(fail 2 Bool)`),
		// 7
		becomes("Int", `(case (let (("x" Int (app (global "f") 1))) (op + "x" "x")) (int 2 5) (else 6))`, `(let (("x" Int (app (global "f") 1))) (case (op + "x" "x") (int 2 5) (else 6)))`),
		becomes("Int", `(case (let (("x" Int (app (global "f") 1)) ("l" (List Int) (app (app (con "Cons" Int) "x") "l"))) "l") (con "Nil" () 0) (con "Cons" ("a" "b") "a"))`,
			`(let (("x" Int (app (global "f") 1)) ("l" (List Int) (app (app (con "Cons" Int) "x") "l"))) (case "l" (con "Nil" () 0) (con "Cons" ("a" "b") "a")))`),
		becomes("Int", `(case (let (("x" Int (app (global "f") 1))) "x") (else 1))`, `(case (app (global "f") 1) (else 1))`),
		// 8
		becomes("Int", `(case (fail 4 Bool) (con "True" () 1))`, `(fail 4 Int)`),
		becomes("(Int -> Bool)", `(case (fail 1 Int) (else (lam "x" Int (con "True"))))`, `(fail 1 (Int -> Bool))`),
		becomes("Int", `(case (case (case 3 (int 2 1)) (int 1 (con "True"))) (con "True" () 1))`, `(fail 2 Int)`),
	})
}

// TestSums: rules 9 and 10.
func TestSums(t *testing.T) {
	const least, most = "-4611686018427387904", "4611686018427387903"
	for _, x := range []struct{ op, numbers, want string }{
		{"+", "2 3", "5"}, {"+", most + " 1", least}, {"+", least + " -1", most}, {"+", least + " " + least, "0"},
		{"-", "2 3", "-1"}, {"-", least + " 1", most}, {"-", "0 " + least, least},
		{"*", "-2 3", "-6"}, {"*", least + " -1", least}, {"*", most + " " + most, "1"}, {"*", "2147483648 2147483648", least},
		{"/", "7 2", "3"}, {"/", "-7 2", "-3"}, {"/", "7 -2", "-3"}, {"/", "-7 -2", "3"}, {"/", least + " -1", least}, {"/", "0 5", "0"}, {"/", "5 0", ""}, {"/", "0 0", ""},
		{"%", "7 2", "1"}, {"%", "-7 2", "-1"}, {"%", "7 -2", "1"}, {"%", "-7 -2", "-1"}, {"%", least + " -1", "0"}, {"%", "5 0", ""}, {"%", "0 0", ""},
		{"==", "3 3", "True"}, {"==", "3 4", "False"}, {"/=", "3 3", "False"}, {"/=", "3 4", "True"}, {"==", "0 0", "True"}, {"==", "1 0", "False"},
		{"<", "3 3", "False"}, {"<", "3 4", "True"}, {"<", least + " " + most, "True"}, {"<", "0 0", "False"},
		{"<=", "3 3", "True"}, {"<=", "4 3", "False"}, {">", "3 3", "False"}, {">", "4 3", "True"}, {">=", "3 3", "True"}, {">=", "3 4", "False"}, {">=", "0 0", "True"},
	} {
		body, is, want := "(op "+x.op+" "+x.numbers+")", "Int", x.want
		if strings.ContainsAny(x.op, "=<>") {
			is, want = "Bool", `(con "`+want+`")`
		}
		if x.want == "" {
			want = body
		}
		checkExamples(t, []example{becomes(is, body, want)})
	}
	checkExamples(t, []example{
		// parts first
		becomes("Int", `(op + (op * 2 3) (op - 1 4))`, `3`),
		becomes("Bool", `(op < (op * 2 3) (op / 1 0))`, `(op < 6 (op / 1 0))`),
		stays("Int", `(op + (global "five") 1)`),
		stays("Int", `(op + 1 (global "five"))`),
		// 10
		becomes("Int", `(op + (fail 1 Int) 2)`, `(fail 1 Int)`),
		becomes("Bool", `(op < (fail 3 Int) (op / 1 0))`, `(fail 3 Bool)`),
		becomes("Int", `(op / (fail 4 Int) 0)`, `(fail 4 Int)`),
		becomes("Int", `(op + (fail 1 Int) (fail 2 Int))`, `(fail 1 Int)`),
		stays("Int", `(op + 2 (fail 1 Int))`),
		stays("Int", `(op + (global "five") (fail 1 Int))`),
	})
}

// TestSeq: rules 11 and 12: a value of each kind, what is none, something stuck.
func TestSeq(t *testing.T) {
	for _, value := range []string{
		`7`, `(lam "x" Int (fail 1 Int))`, `(con "Nil" Int)`, `(con "Cons" Int)`, `(app (con "Cons" Int) (fail 1 Int))`, `(app (app (con "Cons" Int) (fail 1 Int)) (fail 2 (List Int)))`,
		`(global "id" Int)`, `(global "f")`, `(global "self" Bool)`, `(global "add")`, `(app (global "add") (fail 1 Int))`, `(global "twice" Int)`, `(app (global "twice" Int) (fail 1 (Int -> Int)))`, `(global "late")`,
	} {
		checkExamples(t, []example{becomes("Int", `(seq `+value+` (global "five"))`, `(global "five")`)})
	}
	for _, other := range []string{
		`(global "five")`, `(global "ones")`, `(global "inc")`, `(app (global "f") 1)`, `(app (global "self" Int) 1)`, `(op / 1 0)`, `(case (global "five") (int 5 1))`, `(seq (global "five") 1)`, `(hard "x" Int (global "five") 1)`,
		`(let (("x" (List Int) (app (app (con "Cons" Int) 1) "x"))) "x")`, `(app (global "f") (fail 1 Int))`,
	} {
		checkExamples(t, []example{stays("Int", `(seq `+other+` 4)`)})
	}
	checkExamples(t, []example{
		stays("(Int -> Int)", `(lam "x" Int (seq "x" 1))`),
		// its own lambdas alone count: behind a let the second one is none
		becomes("Int", `(seq (app (global "late") 1) 4)`, `(seq (app (lam "x" Int (let (("z" Int (app (global "f") "x"))) (lam "y" Int (op + "z" "y")))) 1) 4)`, ".."),
		// the value is dropped though it has parts that are not known
		becomes("(Int -> Int)", `(lam "x" Int (seq (app (app (con "Cons" Int) "x") (con "Nil" Int)) (op + "x" "x")))`, `(lam "x" Int (op + "x" "x"))`),
		becomes("Int", `(seq 1 (seq 2 (op + 1 2)))`, `3`),
		becomes("Int", `(seq (seq 1 2) 3)`, `3`),
		// 12
		becomes("Int", `(seq (fail 1 Bool) 1)`, `(fail 1 Int)`),
		becomes("(List Int)", `(seq (fail 4 (Int -> Int)) (global "ones"))`, `(fail 4 (List Int))`),
		becomes("(Int -> Int)", `(seq (op + (fail 3 Int) 1) (lam "x" Int "x"))`, `(fail 3 (Int -> Int))`),
		stays("Int", `(seq (global "five") (fail 1 Int))`),
	})
}
