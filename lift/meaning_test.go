package lift_test

import (
	"slices"
	"strings"
	"testing"

	"sloth/api"
	"sloth/elab"
	"sloth/lift"
	"sloth/mono"
	"sloth/simplify"
)

func isBeginning(a, b []api.Item) bool { return len(a) <= len(b) && slices.Equal(a, b[:len(a)]) }

// checkMeaning: P13.4: what p means and what q, which was made of it, means: with the same fuel, and with others. It answers how p and q ended.
func checkMeaning(t *testing.T, p, q api.Program, entry string, input []int, fuel int) (string, string) {
	t.Helper()
	first, second := run(t, p, entry, input, fuel), run(t, q, entry, input, fuel)
	fuels := []int{0, first.Steps / 3, first.Steps - 1, first.Steps, second.Steps - 1, second.Steps, second.Steps + 1, fuel, 2 * fuel}
	var ahead, behind []api.Outcome
	for _, n := range fuels {
		n = max(n, 0)
		ahead, behind = append(ahead, run(t, p, entry, input, n)), append(behind, run(t, q, entry, input, n))
	}
	for i, a := range ahead {
		for j, b := range behind {
			ok := isBeginning(a.Told, b.Told) || isBeginning(b.Told, a.Told)
			if a.Kind != api.OutOfFuel && b.Kind != api.OutOfFuel { // both have ended
				ok = a.Kind == b.Kind && a.Stuck == b.Stuck && slices.Equal(a.Told, b.Told)
			}
			if !ok {
				t.Fatalf("%s, input %d: with fuel %d %s ahead, with fuel %d %s behind:\n%s\n%s", entry, input, fuels[i], short(told(a)), fuels[j], short(told(b)), printed(p), printed(q))
			}
		}
	}
	return ending(first), ending(second)
}

// TestMeaning: P13.4: of programs made at random.
func TestMeaning(t *testing.T) {
	t.Parallel()
	met := map[string]int{}
	many(t, 11, 250, func(k *maker) {
		q, code := lift.Lift(k.Program)
		if code != api.OK {
			return
		}
		for _, entry := range k.entries() {
			a, b := checkMeaning(t, k.Program, q, entry, k.input(), pick(k.Rand, 50, 400, 4000))
			if a == b {
				met[a]++
			}
		}
	})
	t.Log(met)
	for _, end := range []string{"done", "stop", "match", "zero", "loop", "fuel"} {
		if met[end] < 15 {
			t.Errorf("%s is met %d times", end, met[end])
		}
	}
}

// TestMeaningCrowd: the same, of functions that speak of many locals and of one another.
func TestMeaningCrowd(t *testing.T) {
	t.Parallel()
	met := map[string]int{}
	crowds(t, 12, 150, func(p api.Program) {
		q, code := lift.Lift(p)
		for _, d := range p.Defs {
			if code == api.OK && d.Type.Kind == api.TyInt {
				a, b := checkMeaning(t, p, q, d.Name, nil, 1000)
				if a == b && strings.HasPrefix(d.Name, "m") {
					met[a]++
				}
			}
		}
	})
	t.Log(met)
	for _, end := range []string{"done", "loop", "fuel"} {
		if met[end] < 6 {
			t.Errorf("%s is met %d times", end, met[end])
		}
	}
}

// TestInARow: T6: with Simplify and Mono ahead of it and behind it.
func TestInARow(t *testing.T) {
	t.Parallel()
	made := 0
	many(t, 13, 100, func(k *maker) {
		for _, entry := range k.entries() {
			passes := []func(p api.Program) (api.Program, api.Errno){
				func(p api.Program) (api.Program, api.Errno) { return simplify.Simplify(p, 1+k.Intn(3)) },
				func(p api.Program) (api.Program, api.Errno) { return mono.Mono(p, entry) },
				lift.Lift,
			}
			q := k.Program
			for _, pass := range pick(k.Rand, []int{0, 1, 2}, []int{2, 0, 2}, []int{1, 2, 0, 2}, []int{2, 1, 2}, []int{0, 2, 0, 2, 0, 2}) {
				next, code := passes[pass](q)
				if code != api.OK {
					break
				}
				q = next
				made++
			}
			checkMeaning(t, k.Program, q, entry, k.input(), pick(k.Rand, 50, 400, 4000))
		}
	})
	if made < 500 {
		t.Error("few passes:", made)
	}
}

// TestMeaningByHand: P13.4: of inner functions of all kinds, in each way in which a program can end; what is worked out once ahead is worked out once behind.
func TestMeaningByHand(t *testing.T) {
	for _, x := range []struct{ typ, body, want string }{
		{"Int", `(app (lam "x" Int (op * "x" "x")) 7)`, "done 49"},
		{"Int", `(let (("go" (Int -> (Int -> Int)) (lam "n" Int (lam "a" Int (case "n" (int 0 "a") (else (app (app "go" (op - "n" 1)) (op * "n" "a")))))))) (app (app "go" 6) 1))`, "done 720"},
		{"Int", `(let (("s" Int 3) ("e" (Int -> Int) (lam "n" Int (case "n" (int 0 "s") (else (app "o" (op - "n" 1)))))) ("o" (Int -> Int) (lam "m" Int (case "m" (int 0 (fail 1 Int)) (else (app "e" (op - "m" 1))))))) (op + (app "e" 10) (app "o" 4)))`, "stop"},
		{"(List Int)", `(let (("k" Int 5) ("go" (Int -> (List Int)) (lam "n" Int (case (op > "n" "k") (con "True" () (con "Nil" Int)) (else (app (app (con "Cons" Int) "n") (app "go" (op + "n" 1)))))))) (app "go" 3))`, "done Cons 3 Cons 4 Cons 5 Nil"},
		{"(List Int)", `(let (("s" (List Int) (app (app (con "Cons" Int) 1) (app "g" "s"))) ("g" ((List Int) -> (List Int)) (lam "l" (List Int) (app (app (con "Cons" Int) 2) "s")))) "s")`, "fuel Cons 1 Cons 2 Cons 1 Cons 2"},
		{"(Pair Int Int)", `(let (("a" Int (op * 2 3)) ("f" (Int -> (Pair Int Int)) (lam "x" Int (app (app (con "Pair" Int Int) (op + "a" "x")) "a")))) (app "f" 1))`, "done Pair 7 6"},
		{"Int", `(let (("a" Int (op / 1 0)) ("f" (Int -> Int) (lam "x" Int (op + "a" "x")))) (app (lam "y" Int 5) (app "f" 1)))`, "done 5"},
		{"Int", `(let (("a" Int (op / 1 0)) ("f" (Int -> Int) (lam "x" Int (op + "a" "x")))) (app "f" 1))`, "zero"},
		{"(Pair Int Int)", `(let (("f" (Int -> Int) (lam "x" Int (case "x" (int 1 2))))) (app (app (con "Pair" Int Int) (app "f" 1)) (app "f" 2)))`, "match Pair 2"},
		{"Int", `(let (("a" Int (app "f" 1)) ("f" (Int -> Int) (lam "x" Int (op + "a" "x")))) (app "f" 1))`, "loop"},
		{"Int", `(let (("f" (Int -> Int) "g") ("g" (Int -> Int) "f")) (app (lam "x" Int (app "f" "x")) 1))`, "loop"},
		{"Int", `(let (("f" (Int -> Int) (lam "x" Int (app "f" "x")))) (app "f" 1))`, "fuel"},
		{"Int", `(seq (let (("f" (Int -> Int) (lam "x" Int (app "f" "x")))) "f") 1)`, "done 1"}, // a function alone is not worked out
		{"Int", `(seq (lam "x" Int (fail 1 Int)) 1)`, "done 1"},
		{"Int", `(let (("n" Int (fail 3 Int))) (seq (lam "x" Int "n") 1))`, "done 1"},
		{"Int", `(case (app (app (con "Pair" (Int -> Int) Int) (lam "x" Int (op + "x" 1))) 2) (con "Pair" ("f" "n") (app (lam "y" Int (app "f" (op + "n" "y"))) 3)))`, "done 6"},
		{"Int", `(app (app (app (lam "x" Int (seq "x" (lam "y" Int (case "y" (int 2 (lam "z" Int (op - (op * "x" "y") "z"))) (else (fail 1 (Int -> Int))))))) 5) 2) 3)`, "done 7"},
		{"Int", `(app (app (app (lam "x" Int (seq "x" (lam "y" Int (case "y" (int 2 (lam "z" Int (op - (op * "x" "y") "z"))) (else (fail 1 (Int -> Int))))))) 5) 4) 3)`, "stop"},
		{"((List Int) -> Int)", `(lam "l" (List Int) (let (("sum" ((List Int) -> Int) (lam "k" (List Int) (case "k" (con "Nil" () 0) (con "Cons" ("h" "t") (op + "h" (app "sum" "t"))))))) (app "sum" "l")))`, "done 15"},
		{"((List Int) -> (List Int))", `(let (("up" (Int -> ((List Int) -> (List Int))) (lam "n" Int (lam "k" (List Int) (case "k" (con "Nil" () "k") (con "Cons" ("h" "t") (app (app (con "Cons" Int) (op + "h" "n")) (app (app "up" "n") "t")))))))) (app "up" 10))`, "done Cons 17 Cons 18 Nil"},
	} {
		p := read(t, `(def "main" () `+x.typ+` `+x.body+`)`)
		q := lifted(t, p)
		if lift.Lifted(p) && x.want != "loop" {
			t.Error("the test has no inner function:", x.body)
		}
		if got := told(run(t, q, "main", []int{7, 8}, 2000)); got != x.want && (!strings.HasPrefix(x.want, "fuel") || !strings.HasPrefix(got, x.want)) {
			t.Errorf("%s: %s, want %s", x.body, short(got), x.want)
		}
		checkMeaning(t, p, q, "main", []int{7, 8}, 2000)
	}
}

const prelude = `
	map f l = let {go [] = []; go (x : k) = f x : go k} in go l;
	filter p l = let {go [] = []; go (x : k) = if p x then x : go k else go k} in go l;
	foldr f z l = let {go [] = z; go (x : k) = f x (go k)} in go l;
	foldl f z [] = z; foldl f z (x : l) = foldl f (f z x) l;
	infixr 5 ++; (++) k l = foldr (:) l k;
	take 0 l = []; take n [] = []; take n (x : l) = x : take (n - 1) l;
	zip f (x : k) (y : l) = f x y : zip f k l; zip f k l = [];
	from n = n : from (n + 1);
	iterate f x = let {l = x : map f l} in l;
	sum = foldl (+) 0; length = foldr (\x n -> n + 1) 0;
	tail (x : l) = l; head (x : l) = x;
	id x = x; const x y = x; flip f x y = f y x; infixr 9 <.>; (<.>) f g = \x -> f (g x); infixr 0 $; ($) f x = f x;
	fst p = case p of {(a, b) -> a}; snd p = case p of {(a, b) -> b}; not b = if b then False else True;
	infixr 3 &&; (&&) a b = if a then b else False; infixr 2 ||; (||) a b = if a then True else b;
`

// TestSources: P13.4, T6: of programs as people write them, whose answers are known; simpler ahead of it, or as they are.
func TestSources(t *testing.T) {
	t.Parallel()
	for _, x := range []struct {
		decls string
		input []int
		want  string
	}{
		{"main = (id 1, (\\x -> x) True);", nil, "done Pair 1 True"},
		{"fibs = let {l = 0 : 1 : zip (+) l (tail l)} in l; main = take 12 fibs;", nil, "done 0 1 1 2 3 5 8 13 21 34 55 89"},
		{"sort [] = []; sort (x : l) = sort (filter (< x) l) ++ [x] ++ sort (filter (>= x) l); main l = sort l;", []int{3, 1, 4, 1, 5, -9, 2, 6}, "done -9 1 1 2 3 4 5 6"},
		{"main l = (length [l, l], sum l, map length [l, []]);", []int{5, 6, 7}, "done Triple 2 18 3 0"},
		{"main = (map (+ 1) <.> filter (not <.> (> 2)) <.> id) [1, 2, 3];", nil, "done 2 3"},
		{"main = flip const 1 (snd (stop, fst (3, 4)));", nil, "done 3"},
		{"main = head $ filter (\\n -> n % 7 == 0 && n > 20 || n == 100) (from 1);", nil, "done 21"},
		{"two f x = f (f x); main = two two (two two) (+ 1) 0;", nil, "done 256"},
		{"queens n = let {safe q d [] = True; safe q d (x : l) = q /= x && q /= x + d && q /= x - d && safe q (d + 1) l; place 0 = [[]]; place k = foldr (\\l r -> foldr (\\q s -> if safe q 1 l then (q : l) : s else s) r (take n (from 1))) [] (place (k - 1))} in head (place n); main = queens 5;", nil, "done 4 2 5 3 1"},
		{"primes = let {sieve (p : l) = p : sieve (filter (\\n -> n % p /= 0) l)} in sieve (from 2); main = take 6 primes;", nil, "done 2 3 5 7 11 13"},
		{"data Tree a = Leaf | Node (Tree a) a (Tree a); main l = let {put x Leaf = Node Leaf x Leaf; put x (Node a y b) = if x < y then Node (put x a) y b else Node a y (put x b); flat Leaf r = r; flat (Node a y b) r = flat a (y : flat b r)} in flat (foldl (\\t x -> put x t) Leaf l) [];", []int{5, 2, 8, 1, 9, 3}, "done 1 2 3 5 8 9"},
		{"data Exp = Num Int | Add Exp Exp | Div Exp Exp; main = let {eval e = case e of {Num n -> n; Add a b -> eval a + eval b; Div a b -> eval a / eval b}} in map eval [Add (Num 2) (Num 3), Div (Num 7) (Add (Num 1) (Num (0 - 1)))];", nil, "zero 5"},
		{"data Fun = Fun (Int -> Int) Int; use (Fun f n) = f n; main l = map use (foldr (\\n r -> Fun (\\x -> x * n + length l) n : r) [] l);", []int{2, 3}, "done 6 11"},
		{"main = let {l = [1, stop, 3]} in (length l, head l, sum l);", nil, "stop Triple 3 1"},
		{"main l = let {second (a : b : k) = b} in 1 + second l;", []int{1}, "match"},
		{"main = let {a = fst (b, 1); b = snd (1, a)} in a + 1;", nil, "loop"},
		{"main = let {even n = if n == 0 then True else odd (n - 1); odd n = if n == 0 then False else even (n - 1)} in (even 10, odd 7, even 3);", nil, "done Triple True True False"},
		{"main = iterate (* 2) 1;", nil, "fuel 1 2 4 8"},
	} {
		p, err := elab.Elab([]string{"module Main; " + prelude + x.decls})
		if err != nil {
			t.Errorf("the test is wrong: %s: %v", x.decls, err)
			continue
		}
		for rounds := range 4 {
			simple, code := simplify.Simplify(p, rounds)
			if code != api.OK {
				t.Fatal(x.decls, code)
			}
			plain, code := mono.Mono(simple, "Main.main")
			if code != api.OK {
				t.Fatal(x.decls, code)
			}
			q := lifted(t, plain)
			checkMeaning(t, plain, q, "Main.main", x.input, 60000)
			o := run(t, q, "Main.main", x.input, 60000)
			got := ending(o)
			for _, s := range strings.Fields(told(o))[1:] {
				if s != "Cons" && s != "Nil" { // a list is told by its elements, for short
					got += " " + s
				}
			}
			if got != x.want && (o.Kind != api.OutOfFuel || !strings.HasPrefix(got, x.want)) {
				t.Errorf("%s: %s, want %s", x.decls, short(got), x.want)
			}
		}
	}
}
