package compile_test

import (
	"fmt"
	"slices"
	"strings"
	"testing"

	"sloth/api"
	"sloth/elab"
	"sloth/lift"
	"sloth/meaning"
	"sloth/mono"
	"sloth/simplify"
	"sloth/worker"
)

func isBeginning(a, b []api.Item) bool { return len(a) <= len(b) && slices.Equal(a, b[:len(a)]) }

// ending tells in a word how an outcome ended.
func ending(o api.Outcome) string {
	switch o.Kind {
	case api.Done:
		return "done"
	case api.OutOfFuel:
		return "fuel"
	case api.Stuck:
		return map[int]string{api.StuckStop: "stop", api.StuckMatch: "match", api.StuckZero: "zero", api.StuckLoop: "loop", api.StuckForm: "form"}[o.Stuck]
	}
	return "?"
}

// told writes an outcome: how it ended, and what was told.
func told(o api.Outcome) string {
	s := ending(o)
	for _, x := range o.Told {
		if x.Con == "" {
			s += fmt.Sprint(" ", x.Num)
		} else {
			s += " " + x.Con
		}
	}
	return s
}

// checkRun: what the table of a program tells when it runs, and what the program means (chapter 22): the one is a beginning of the other; it is never StuckForm, and stuck only where the program doesn't end. It answers how both ended.
func checkRun(t *testing.T, p api.Program, x api.Table, entry string, input []int, fuel int) (string, string) {
	t.Helper()
	a, e := meaning.Run(p, entry, input, fuel)
	if e != api.OK {
		t.Fatalf("Run(%s): %v\n%s", entry, e, printed(p))
	}
	b := runTable(x, entry, input, 8*fuel)
	ok := isBeginning(a.Told, b.Told) || isBeginning(b.Told, a.Told)
	switch {
	case a.Kind == api.Done && b.Kind == api.Done:
		ok = slices.Equal(a.Told, b.Told)
	case a.Kind == api.Done:
		ok = ok && b.Kind == api.OutOfFuel
	case b.Kind == api.Done:
		ok = ok && a.Kind == api.OutOfFuel
	}
	if !ok || b.Stuck == api.StuckForm {
		t.Fatalf("%s, input %d: it means %s, and tells %s:\n%s\n%s", entry, input, short(told(a)), short(told(b)), printed(p), shown(x))
	}
	return ending(a), ending(b)
}

// TestRuns: tables of programs made at random do what the programs mean.
func TestRuns(t *testing.T) {
	t.Parallel()
	met := count{}
	many(t, 21, 700, func(k *maker) {
		x := compiled(t, k.Program)
		for _, entry := range k.entries() {
			a, b := checkRun(t, k.Program, x, entry, k.input(), pick(k.Rand, 50, 400, 4000))
			met[a+" "+b]++
		}
	})
	t.Log(met)
	met.check(t, 20, "done done", "stop stop", "match match", "zero zero", "loop loop", "fuel fuel")
}

// TestRunsByHand: what is told, in each way in which a program can end.
func TestRunsByHand(t *testing.T) {
	library := raw(t, someDatas)
	for _, x := range []struct{ typ, body, want string }{
		{"Int", op("-", "10", "3"), "done 7"}, // the top is the first operand
		{"Int", op("/", "-7", "2"), "done -3"},
		{"Bool", op("<", "1", "2"), "done True"},
		{"Int", op("+", op("*", "2", "3"), global("fac", op("+", "2", "2"))), "done 30"},
		{"Int", global("k", "4", op("/", "1", "0")), "done 4"},
		{"Int", global("k", op("/", "1", "0"), "4"), "zero"},
		{"Int", seq(op("/", "1", "0"), "4"), "zero"},
		{"Int", `(hard "v" Int (op / 1 0) 4)`, "zero"},
		{"Int", `(let (("v" Int (op / 1 0))) 4)`, "done 4"},
		{"Int", `(hard "v" Int (op + 1 2) (op * "v" "v"))`, "done 9"},
		{list, cons("1", cons(op("/", "1", "0"), none)), "zero Cons 1 Cons"},
		{list, global("take", "3", `(let (("o" (List Int) `+cons("1", `"u"`)+`) ("u" (List Int) `+cons("2", `"o"`)+`)) "u")`), "done Cons 2 Cons 1 Cons 2 Nil"},
		{list, global("fold", `(con "Cons" Int)`, cons("1", cons("2", none))), "done Cons 1 Cons 2 Nil"},
		{list, global("map", global("add", "10"), global("take", "2", global("from", "5"))), "done Cons 15 Cons 16 Nil"},
		{"(Pair Int Int)", app(app(`(case 1 (else (con "Pair" Int Int)))`, op("+", "1", "2")), "4"), "done Pair 3 4"},
		{"(Pair Int Int)", app(`(let (("v" (Int -> (Pair Int Int)) (app (con "Pair" Int Int) 1))) "v")`, "2"), "done Pair 1 2"},
		{"Int", `(case ` + none + ` (con "Cons" ("u" "v") "u"))`, "match"},
		{"Int", `(case 3 (int 1 2) (int -1 2))`, "match"},
		{"Int", `(case -1 (int 1 2) (int -1 5) (else 7))`, "done 5"},
		{"Int", `(op + (case (app (app (con "Pair" Int Int) 3) 4) (con "Pair" ("u" "v") (op - "u" "v"))) (case 2 (int 2 100)))`, "done 99"},
		{"Int", `(let (("v" Int (op + "v" 1))) "v")`, "loop"},
		{"Int", "(fail 1 Int)", "stop"},
		{"Int", op("+", "(fail 4 Int)", "1"), "loop"},
		{"Int", global("loop", "1"), "fuel"},
		{"(" + list + " -> Int)", `(global "sum")`, "done 15"},
		{"(" + list + " -> " + list + ")", `(app (con "Cons" Int) 1)`, "done Cons 1 Cons 7 Cons 8 Nil"},
	} {
		p := raw(t, fn("main", "", x.typ, x.body))
		p.Datas, p.Defs = library.Datas, append(p.Defs, library.Defs...)
		table := compiled(t, p)
		checkRun(t, p, table, "main", []int{7, 8}, 3000)
		if got := told(runTable(table, "main", []int{7, 8}, 3000)); got != x.want {
			t.Errorf("%s: %s, want %s", x.body, short(got), x.want)
		}
	}
}

const prelude = `
	map f l = case l of {[] -> []; x : k -> f x : map f k};
	filter p l = case l of {[] -> []; x : k -> if p x then x : filter p k else filter p k};
	foldr f z l = let {go [] = z; go (x : k) = f x (go k)} in go l;
	foldl f z [] = z; foldl f z (x : l) = foldl f (f z x) l;
	sum l n = case l of {[] -> n; x : k -> sum k (n + x)};
	infixr 5 ++; (++) k l = case k of {[] -> l; x : r -> x : (r ++ l)};
	take 0 l = []; take n [] = []; take n (x : l) = x : take (n - 1) l;
	zip f (x : k) (y : l) = f x y : zip f k l; zip f k l = [];
	from n = n : from (n + 1); tail (x : l) = l; fst p = case p of {(a, b) -> a}; snd p = case p of {(a, b) -> b};
	fac n a = if n == 0 then a else fac (n - 1) (n * a);
	ack m n = if m == 0 then n + 1 else if n == 0 then ack (m - 1) 1 else ack (m - 1) (ack m (n - 1));
`

// flat makes a source's program lifted; with rounds, simpler ahead of that, and what is needed is worked out first behind it.
func flat(t *testing.T, p api.Program, rounds int) api.Program {
	t.Helper()
	passes := []func(p api.Program) (api.Program, api.Errno){func(p api.Program) (api.Program, api.Errno) { return mono.Mono(p, "Main.main") }, lift.Lift}
	if rounds > 0 {
		simpler := func(p api.Program) (api.Program, api.Errno) { return simplify.Simplify(p, rounds) }
		passes = append(slices.Insert(passes, 0, simpler), worker.Split)
	}
	for _, pass := range passes {
		next, e := pass(p)
		if e != api.OK {
			t.Fatal(printed(p), e)
		}
		p = next
	}
	return p
}

// TestSources: programs as people write them, whose answers are known: slow and fast.
func TestSources(t *testing.T) {
	t.Parallel()
	for _, x := range []struct {
		decls string
		input []int
		want  string
	}{
		{"main = 2 + 3 * 4;", nil, "done 14"},
		{"main = [1 / 0, 2];", nil, "zero"},
		{"main = (fac 10 1, ack 2 2);", nil, "done Pair 3628800 7"},
		{"main l = (sum l 0, sum (map (* 2) (filter (> 2) l)) 1);", []int{1, 2, 3, 4}, "done Pair 10 15"},
		{"main = (foldl (+) 0 (take 10 (from 1)), foldr (-) 0 [1, 2, 3]);", nil, "done Pair 55 2"},
		{"primes = let {sieve (p : l) = p : sieve (filter (\\n -> n % p /= 0) l)} in sieve (from 2); main = take 6 primes;", nil, "done 2 3 5 7 11 13"},
		{"fibs = let {l = 0 : 1 : zip (+) l (tail l)} in l; main = take 12 fibs;", nil, "done 0 1 1 2 3 5 8 13 21 34 55 89"},
		{"sort [] = []; sort (x : l) = sort (filter (< x) l) ++ [x] ++ sort (filter (>= x) l); main l = sort l;", []int{3, 1, 4, 1, 5, -9, 2, 6}, "done -9 1 1 2 3 4 5 6"},
		{"data Tree a = Leaf | Node (Tree a) a (Tree a); put x t = case t of {Leaf -> Node Leaf x Leaf; Node a y b -> if x < y then Node (put x a) y b else Node a y (put x b)}; flat t r = case t of {Leaf -> r; Node a y b -> flat a (y : flat b r)}; main l = flat (foldl (\\t x -> put x t) Leaf l) [];", []int{5, 2, 8, 1, 9, 3}, "done 1 2 3 5 8 9"},
		{"data Exp = Num Int | Add Exp Exp | Div Exp Exp; eval e = case e of {Num n -> n; Add a b -> eval a + eval b; Div a b -> eval a / eval b}; main = map eval (zip Add (map Num [1, 2]) [Num 3, Div (Num 7) (Num 2)]);", nil, "done 4 5"},
		{"main = let {a = fst (b, 1); b = snd (1, a)} in a + 1;", nil, "loop"},
		{"main l = let {second (a : b : k) = b} in 1 + second l;", []int{1}, "match"},
		{"f 0 = 1; f (n) = case n of { 1 -> 2 }; main = f 3;", nil, "match"},
	} {
		p, err := elab.Elab([]string{"module Main; " + prelude + x.decls})
		if err != nil {
			t.Fatalf("the test is wrong: %s: %v", x.decls, err)
		}
		for rounds := range 3 {
			q := flat(t, p, rounds)
			table := checkPlain(t, q, count{})
			checkRun(t, q, table, "Main.main", x.input, 60000)
			got := ""
			for _, s := range strings.Fields(told(runTable(table, "Main.main", x.input, 300000))) {
				if s != "Cons" && s != "Nil" { // a list is told by its elements, for short
					got += " " + s
				}
			}
			if got != " "+x.want {
				t.Errorf("%s:%s, want %s", x.decls, short(got), x.want)
			}
		}
	}
}
