package worker_test

import (
	"slices"
	"strings"
	"testing"

	"sloth/api"
	"sloth/elab"
	"sloth/lift"
	"sloth/mono"
	"sloth/simplify"
	"sloth/worker"
)

func isBeginning(a, b []api.Item) bool { return len(a) <= len(b) && slices.Equal(a, b[:len(a)]) }

// checkMeaning: P16.4: what p means and what q, which was made of it, means: with the same fuel, and with others. It answers how p and q ended.
func checkMeaning(t *testing.T, p, q api.Program, entry string, input []int, fuel int) (string, string) {
	t.Helper()
	first, second := run(t, p, entry, input, fuel), run(t, q, entry, input, fuel)
	fuels := []int{0, first.Steps / 3, first.Steps - 1, first.Steps, second.Steps / 2, second.Steps - 1, second.Steps, second.Steps + 1, fuel, 2 * fuel}
	var ahead, behind []api.Outcome
	for _, n := range fuels {
		n = max(n, 0)
		ahead, behind = append(ahead, run(t, p, entry, input, n)), append(behind, run(t, q, entry, input, n))
	}
	for i, a := range ahead {
		for j, b := range behind {
			ok := isBeginning(a.Told, b.Told) || isBeginning(b.Told, a.Told)
			switch {
			case a.Kind == api.Done && b.Kind == api.Done:
				ok = slices.Equal(a.Told, b.Told)
			case a.Kind == api.Done:
				ok = ok && b.Kind == api.OutOfFuel
			case b.Kind == api.Done:
				ok = ok && a.Kind == api.OutOfFuel
			}
			if !ok {
				t.Fatalf("%s, input %d: with fuel %d %s ahead, with fuel %d %s behind:\n%s\n%s", entry, input, fuels[i], short(told(a)), fuels[j], short(told(b)), printed(p), printed(q))
			}
		}
	}
	return ending(first), ending(second)
}

// TestMeaning: P16.4: of programs made at random.
func TestMeaning(t *testing.T) {
	t.Parallel()
	met, needed := map[string]int{}, 0
	many(t, 21, 500, func(k *maker) {
		q := split(t, k.Program)
		if alike(k.Program, q) {
			return
		}
		needed++
		for _, entry := range k.entries() {
			a, b := checkMeaning(t, k.Program, q, entry, k.input(), pick(k.Rand, 50, 400, 4000))
			met[a+" "+b]++
		}
	})
	t.Log(met, needed)
	for _, ends := range []string{"done done", "stop stop", "match match", "zero zero", "loop loop", "fuel fuel"} {
		if met[ends] < 10 {
			t.Errorf("%s is met %d times", ends, met[ends])
		}
	}
}

// TestInARow: T6: with Simplify, Mono and Lift ahead of it and behind it, and again.
func TestInARow(t *testing.T) {
	t.Parallel()
	made := map[int]int{}
	many(t, 22, 120, func(k *maker) {
		for _, entry := range k.entries() {
			passes := []func(p api.Program) (api.Program, api.Errno){
				func(p api.Program) (api.Program, api.Errno) { return simplify.Simplify(p, 1+k.Intn(3)) },
				func(p api.Program) (api.Program, api.Errno) { return mono.Mono(p, entry) },
				lift.Lift,
				worker.Split,
			}
			q := k.Program
			for _, pass := range pick(k.Rand, []int{0, 1, 2, 3}, []int{3, 0, 3}, []int{3, 3, 3}, []int{0, 2, 3, 1, 0, 3}, []int{3, 1, 3, 0}, []int{1, 2, 3, 2, 3}) {
				if next, code := passes[pass](q); code == api.OK {
					q = next
					made[pass]++
				}
			}
			checkMeaning(t, k.Program, q, entry, k.input(), pick(k.Rand, 50, 400, 4000))
		}
	})
	t.Log(made)
	for pass := range 4 {
		if made[pass] < 100 {
			t.Error("few passes:", made)
		}
	}
}

// TestMeaningByHand: P16.2, P16.4: what is told, in each way in which a program can end; nothing is worked out beyond the head form of what is needed.
func TestMeaningByHand(t *testing.T) {
	for _, x := range []struct{ typ, body, want string }{
		{"Int", add(op("*", "2", "3"), global("fac", op("+", "2", "2"))), "done 30"},
		{"Int", global("k", global("id", "4"), op("/", "1", "0")), "done 4"}, // what is not needed is not worked out
		{"Int", global("k", op("/", "1", "0"), fail("Int")), "zero"},         // what is needed is
		{"Int", global("g", global("id", op("/", "1", "0"))), "done 5"},      // a call in an argument that is not needed
		{"Int", global("head", global("from", op("+", "3", "4"))), "done 7"}, // a list without an end
		{"Int", global("len", global("take", "3", global("from", "1"))), "done 3"},
		{"Int", global("len", `(case 1 (else `+cons(op("/", "1", "0"), none)+`))`), "done 1"}, // nothing within a constructor
		{"Int", global("head", `(case 1 (else `+cons("2", fail(list))+`))`), "done 2"},        // nothing along a list
		{"Int", global("sum", `(case 1 (else `+cons(op("/", "1", "0"), fail(list))+`))`), "zero"},
		{"Int", global("fst", `(case 1 (else `+app(`(con "Pair" Int Int)`, "6", fail("Int"))+`))`), "done 6"},
		{"Int", global("loop", op("+", "1", "1")), "fuel"},
		{"Int", global("loop", op("/", "1", "0")), "zero"},
		{"Int", global("never", global("from", "1")), "stop"},
		{list, cons(global("id", op("+", "1", "1")), global("rev", global("take", op("-", "3", "1"), global("from", "5")), none)), "done Cons 2 Cons 6 Cons 5 Nil"},
		{list, cons("1", cons(global("id", op("/", "1", "0")), none)), "zero Cons 1 Cons"},
		{list, global("map", global("add", op("*", "2", "5")), global("take", global("id", op("+", "1", "1")), global("from", "1"))), "done Cons 11 Cons 12 Nil"},
		{"Int", `(let (("x" Int ` + global("id", op("/", "1", "0")) + `)) ` + global("id", op("+", "1", "1")) + `)`, "done 2"},
		{"Int", `(let (("x" Int ` + global("id", op("+", `"x"`, "1")) + `)) ` + global("id", op("+", `"x"`, "1")) + `)`, "loop"},
		{list, `(let (("x" (List Int) ` + cons(global("id", op("+", "1", "1")), `"x"`) + `)) ` + global("take", op("+", "1", "1"), `"x"`) + `)`, "done Cons 2 Cons 2 Nil"},
		{"Int", global("ap", `(case 1 (else (global "id")))`, op("+", "4", "4")), "done 8"},
		{"Int", global("ap", `(case 1 (else (global "g")))`, fail("Int")), "done 5"},
		{"Int", global("id", `(case 3 (int 2 1))`), "match"},
		{"(Pair Int Int)", app(`(con "Pair" Int Int)`, global("fac", op("+", "1", "2")), global("id", `(case `+none+` (con "Cons" ("u" "v") "u"))`)), "match Pair 6"},
		{"Bool", global("not", global("not", op("<", "1", "2"))), "done True"},
		{"(" + list + " -> Int)", `(global "sum")`, "done 15"},
	} {
		p := read(t, fn("main", "", x.typ, x.body)+library)
		q := split(t, p)
		if got := told(run(t, q, "main", []int{7, 8}, 2000)); got != x.want {
			t.Errorf("%s: %s, want %s", x.body, short(got), x.want)
		}
		checkMeaning(t, p, q, "main", []int{7, 8}, 2000)
	}
	// an entry that is given the input
	p := read(t, fn("main", "l "+list, "Int", add(global("sum", `(case "l" (else "l"))`), global("len", global("map", `(global "fac")`, global("rev", global("take", op("+", "1", "1"), `"l"`), none)))))+library)
	q := split(t, p)
	if kinds(q)[api.ExprHard] != 1+7 {
		t.Error(printed(q))
	}
	for _, input := range [][]int{nil, {1}, {3, 4, 5}, {api.MaxInt, 1}} {
		if a, b := checkMeaning(t, p, q, "main", input, 2000); a != "done" || b != "done" {
			t.Error(input, a, b)
		}
	}
}

const prelude = `
	map f l = case l of {[] -> []; x : k -> f x : map f k};
	filter p l = case l of {[] -> []; x : k -> if p x then x : filter p k else filter p k};
	foldr f z l = let {go [] = z; go (x : k) = f x (go k)} in go l;
	foldl f z [] = z; foldl f z (x : l) = foldl f (f z x) l;
	sum l n = case l of {[] -> n; x : k -> sum k (n + x)};
	length l n = case l of {[] -> n; x : k -> length k (n + 1)};
	infixr 5 ++; (++) k l = case k of {[] -> l; x : r -> x : (r ++ l)};
	take 0 l = []; take n [] = []; take n (x : l) = x : take (n - 1) l;
	zip f (x : k) (y : l) = f x y : zip f k l; zip f k l = [];
	from n = n : from (n + 1);
	iterate f x = x : iterate f (f x);
	rev l a = case l of {[] -> a; x : k -> rev k (x : a)};
	head (x : l) = x; tail (x : l) = l; id x = x; const x y = x; flip f x y = f y x;
	fst p = case p of {(a, b) -> a}; snd p = case p of {(a, b) -> b}; not b = if b then False else True;
	infixr 3 &&; (&&) a b = if a then b else False; infixr 2 ||; (||) a b = if a then True else b;
	fac n a = if n == 0 then a else fac (n - 1) (n * a); gcd a b = if b == 0 then a else gcd b (a % b);
	fib n a b = if n == 0 then a else fib (n - 1) b (a + b);
	ack m n = if m == 0 then n + 1 else if n == 0 then ack (m - 1) 1 else ack (m - 1) (ack m (n - 1));
`

// TestSources: P16.4, T6: of programs as people write them, whose answers are known; simpler ahead of it, or as they are.
func TestSources(t *testing.T) {
	t.Parallel()
	for _, x := range []struct {
		decls string
		input []int
		want  string
		hards int // how many needed arguments there are at least, however simple it is
	}{
		{"main = (fac 10 1, gcd 84 36, fib 20 0 1);", nil, "done Triple 3628800 12 6765", 4},
		{"main = ack 2 (ack 1 1);", nil, "done 9", 4},
		{"main l = (sum l 0, length l 0, sum (map (* 2) (filter (> 2) l)) 1);", []int{1, 2, 3, 4}, "done Triple 10 4 15", 2},
		{"main = length (map (/ 0) (take 3 (from 1))) 0;", nil, "done 3", 1}, // the elements are not worked out
		{"main = head (map fst [(1, stop), stop]);", nil, "done 1", 0},
		{"main = sum (take 3 (1 : 2 : 3 : stop)) 0;", nil, "done 6", 1},
		{"main = sum (take 4 (1 : 2 : 3 : stop)) 0;", nil, "stop", 1},
		{"main = take 3 (rev (take 5 (iterate (* 2) 1)) []);", nil, "done 16 8 4", 0},
		{"main = const 3 (fac (0 - 1) 1);", nil, "done 3", 0},
		{"main = (foldl (+) 0 (take 10 (from 1)), foldr (-) 0 [1, 2, 3]);", nil, "done Pair 55 2", 0},
		{"primes = let {sieve (p : l) = p : sieve (filter (\\n -> n % p /= 0) l)} in sieve (from 2); main = take 6 primes;", nil, "done 2 3 5 7 11 13", 1},
		{"fibs = let {l = 0 : 1 : zip (+) l (tail l)} in l; main = take 12 fibs;", nil, "done 0 1 1 2 3 5 8 13 21 34 55 89", 0},
		{"sort [] = []; sort (x : l) = sort (filter (< x) l) ++ [x] ++ sort (filter (>= x) l); main l = sort l;", []int{3, 1, 4, 1, 5, -9, 2, 6}, "done -9 1 1 2 3 4 5 6", 2},
		{"data Tree a = Leaf | Node (Tree a) a (Tree a); put x t = case t of {Leaf -> Node Leaf x Leaf; Node a y b -> if x < y then Node (put x a) y b else Node a y (put x b)}; flat t r = case t of {Leaf -> r; Node a y b -> flat a (y : flat b r)}; main l = flat (foldl (\\t x -> put x t) Leaf l) [];", []int{5, 2, 8, 1, 9, 3}, "done 1 2 3 5 8 9", 1},
		{"data Exp = Num Int | Add Exp Exp | Div Exp Exp; eval e = case e of {Num n -> n; Add a b -> eval a + eval b; Div a b -> eval a / eval b}; main = map eval [Add (Num 2) (Num 3), Div (Num 7) (Add (Num 1) (Num (0 - 1)))];", nil, "zero 5", 0},
		{"while n a = if n == 0 then a else while (n - 1) (if n % 2 == 0 then a + n else a); main = while 10 0;", nil, "done 30", 1},
		{"up n = up (n + 1); main = if gcd 6 4 == 2 then 1 else up 0;", nil, "done 1", 1},
		{"up n = up (n + 1); main = 3 : [up 0];", nil, "fuel 3", 0},
		{"main = let {a = fst (b, 1); b = snd (1, a)} in a + 1;", nil, "loop", 0},
		{"main l = let {second (a : b : k) = b} in 1 + second l;", []int{1}, "match", 0},
	} {
		p, err := elab.Elab([]string{"module Main; " + prelude + x.decls})
		if err != nil {
			t.Errorf("the test is wrong: %s: %v", x.decls, err)
			continue
		}
		for rounds := range 4 {
			simple, code := simplify.Simplify(p, rounds)
			if code != api.OK {
				t.Fatal(x.decls, code)
			}
			plain, code := mono.Mono(simple, "Main.main")
			if code != api.OK {
				t.Fatal(x.decls, code)
			}
			flat, code := lift.Lift(plain)
			if code != api.OK {
				t.Fatal(x.decls, code)
			}
			q := split(t, flat)
			if n := kinds(q)[api.ExprHard]; n < x.hards {
				t.Errorf("%s: %d needed arguments", x.decls, n)
			}
			checkMeaning(t, flat, q, "Main.main", x.input, 60000)
			o := run(t, q, "Main.main", x.input, 60000)
			got := ending(o)
			for _, s := range strings.Fields(told(o))[1:] {
				if s != "Cons" && s != "Nil" { // a list is told by its elements, for short
					got += " " + s
				}
			}
			if got != x.want {
				t.Errorf("%s: %s, want %s", x.decls, short(got), x.want)
			}
		}
	}
}
