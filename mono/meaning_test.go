package mono_test

import (
	"slices"
	"strings"
	"testing"

	"sloth/api"
	"sloth/elab"
	"sloth/mono"
	"sloth/simplify"
)

func isBeginning(a, b []api.Item) bool { return len(a) <= len(b) && slices.Equal(a, b[:len(a)]) }

// checkMeaning: P12.5: what p means and what q, which was made of it, means: with the same fuel, and with others. It answers how p and q ended.
func checkMeaning(t *testing.T, p, q api.Program, entry string, input []int, fuel int) (string, string) {
	t.Helper()
	first, second := run(t, p, entry, input, fuel), run(t, q, entry, input, fuel)
	fuels := []int{0, first.Steps / 3, first.Steps - 1, first.Steps, second.Steps - 1, second.Steps, second.Steps + 1, fuel, 2 * fuel}
	var ahead, behind []api.Outcome
	for _, n := range fuels {
		n = max(n, 0)
		ahead, behind = append(ahead, run(t, p, entry, input, n)), append(behind, run(t, q, entry, input, n))
	}
	for i, a := range ahead {
		for j, b := range behind {
			ok := isBeginning(a.Told, b.Told) || isBeginning(b.Told, a.Told)
			if a.Kind != api.OutOfFuel && b.Kind != api.OutOfFuel { // both have ended
				ok = a.Kind == b.Kind && a.Stuck == b.Stuck && slices.Equal(a.Told, b.Told)
			}
			if !ok {
				t.Fatalf("%s, input %d: with fuel %d %s ahead, with fuel %d %s behind:\n%s\n%s", entry, input, fuels[i], short(told(a)), fuels[j], short(told(b)), printed(p), printed(q))
			}
		}
	}
	return ending(first), ending(second)
}

// TestMeaning: P12.5: of programs made at random.
func TestMeaning(t *testing.T) {
	t.Parallel()
	met := map[string]int{}
	many(t, 6, 300, func(k *maker) {
		for _, entry := range k.entries() {
			q, code := mono.Mono(k.Program, entry)
			if code != api.OK {
				continue
			}
			a, b := checkMeaning(t, k.Program, q, entry, k.input(), pick(k.Rand, 50, 400, 4000))
			if a == b {
				met[a]++
			}
		}
	})
	t.Log(met)
	for _, end := range []string{"done", "stop", "match", "zero", "loop", "fuel"} {
		if met[end] < 30 {
			t.Errorf("%s is met %d times", end, met[end])
		}
	}
}

// TestInARow: T6: with rounds of Simplify ahead of it and behind it.
func TestInARow(t *testing.T) {
	t.Parallel()
	made := 0
	many(t, 9, 80, func(k *maker) {
		for _, entry := range k.entries() {
			passes := []func(p api.Program) (api.Program, api.Errno){
				func(p api.Program) (api.Program, api.Errno) { return simplify.Simplify(p, 1+k.Intn(3)) },
				func(p api.Program) (api.Program, api.Errno) { return mono.Mono(p, entry) },
			}
			q := k.Program
			for _, pass := range pick(k.Rand, []int{0, 1}, []int{1, 0}, []int{1, 0, 1}, []int{0, 1, 0, 1}) {
				next, code := passes[pass](q)
				if code != api.OK {
					break
				}
				q = next
				made++
			}
			checkMeaning(t, k.Program, q, entry, k.input(), pick(k.Rand, 50, 400, 4000))
		}
	})
	if made < 500 {
		t.Error("few passes:", made)
	}
}

// TestMeaningByHand: P12.5: of definitions without arguments, each of which is worked out once for all its uses ahead, and once for each instance behind; in each way in which a program can end.
func TestMeaningByHand(t *testing.T) {
	const general = `(data M.T (a) ("M.T" Int a))
		(def "nil" (a) (List a) (con "Nil" a)) (def "no" (a) (a -> a) (lam "x" a (app (global "no" a) "x")))
		(def "slow" (a) (M.T (List a)) (app (app (con "M.T" (List a)) (op * 3 (op + 4 5))) (global "nil" a)))
		(def "num" (a) Int (case (global "slow" a) (con "M.T" ("n" "l") "n")))
		(def "zero" (a) Int (op / (global "num" a) 0)) (def "stop" (a) Int (fail 1 Int)) (def "match" (a) Int (case (global "slow" a) (con "M.T" ("n" "l") (case "n" (int 5 1)))))
		(def "self" (a) Int (global "self" a)) (def "other" (a) Int (op + 1 (global "another" a))) (def "another" (a) Int (op * 2 (global "other" a)))
		(def "fst" (a b) ((Pair a b) -> a) (lam "p" (Pair a b) (case "p" (con "Pair" ("x" "y") "x"))))`
	for _, x := range []struct{ typ, body, want string }{
		{"(Pair Int Int)", `(app (app (con "Pair" Int Int) (global "num" Bool)) (global "num" Int))`, "done Pair 27 27"},
		{"(M.T (List Bool))", `(seq (global "slow" Int) (global "slow" Bool))`, "done M.T 27 Nil"},
		{"Int", `(app (global "fst" Int Bool) (app (app (con "Pair" Int Bool) (global "num" Unit)) (fail 1 Bool)))`, "done 27"},
		{"Bool", `(app (global "fst" Bool Int) (app (app (con "Pair" Bool Int) (op == (global "num" Unit) (global "num" Bool))) (global "zero" Int)))`, "done True"},
		{"(List Int)", `(app (app (con "Cons" Int) (global "num" Int)) (app (app (con "Cons" Int) (global "zero" Int)) (global "nil" Int)))`, "zero Cons 27 Cons"},
		{"(Pair Int Int)", `(app (app (con "Pair" Int Int) (global "num" Bool)) (global "stop" Int))`, "stop Pair 27"},
		{"(Pair Int Int)", `(app (app (con "Pair" Int Int) (global "match" Bool)) (global "stop" Int))`, "match Pair"},
		{"(Pair Int Int)", `(app (app (con "Pair" Int Int) 1) (global "self" Int))`, "loop Pair 1"},
		{"(Pair Int Int)", `(app (app (con "Pair" Int Int) 1) (global "another" Int))`, "loop Pair 1"},
		{"Int", `(op + (global "zero" Int) (global "stop" Int))`, "zero"},
		{"Int", `(op + (global "stop" Int) (global "zero" Int))`, "stop"},
		{"Int", `(seq (global "no" Bool) (app (global "no" Int) 1))`, "fuel"},
		{"(Pair Int Int)", `(app (app (con "Pair" Int Int) (op + (global "num" Unit) 1)) (app (global "no" Int) 1))`, "fuel Pair 28"},
		{"(List Int)", `(let (("l" (List Int) (app (app (con "Cons" Int) (global "num" Bool)) "l"))) "l")`, "fuel Cons 27 Cons 27 Cons 27"},
		{"((List Int) -> Int)", `(lam "l" (List Int) (case "l" (con "Cons" ("x" "t") (op + "x" (global "num" Int)))))`, "done 34"},
		{"((List Int) -> (List Int))", `(app (global "fst" ((List Int) -> (List Int)) Int) (app (app (con "Pair" ((List Int) -> (List Int)) Int) (lam "l" (List Int) "l")) (global "zero" Int)))`, "done Cons 7 Cons 8 Nil"},
	} {
		p := read(t, general+`(def "main" () `+x.typ+` `+x.body+`)`)
		q := made(t, p, "main")
		if got := told(run(t, q, "main", []int{7, 8}, 2000)); got != x.want && (ending(run(t, q, "main", []int{7, 8}, 2000)) != "fuel" || !strings.HasPrefix(got, x.want)) {
			t.Errorf("%s: %s, want %s", x.body, short(got), x.want)
		}
		checkMeaning(t, p, q, "main", []int{7, 8}, 2000)
	}
}

const prelude = `
	map f [] = []; map f (x : l) = f x : map f l;
	filter p [] = []; filter p (x : l) = if p x then x : filter p l else filter p l;
	foldr f z [] = z; foldr f z (x : l) = f x (foldr f z l);
	foldl f z [] = z; foldl f z (x : l) = foldl f (f z x) l;
	infixr 5 ++; (++) [] l = l; (++) (x : k) l = x : (k ++ l);
	take 0 l = []; take n [] = []; take n (x : l) = x : take (n - 1) l;
	zip f (x : k) (y : l) = f x y : zip f k l; zip f k l = [];
	from n = n : from (n + 1);
	iterate f x = x : iterate f (f x);
	sum = foldl (+) 0; length = foldr (\x n -> n + 1) 0;
	tail (x : l) = l; head (x : l) = x;
	id x = x; const x y = x; flip f x y = f y x; infixr 9 <.>; (<.>) f g x = f (g x); infixr 0 $; ($) f x = f x;
	fst p = case p of {(a, b) -> a}; snd p = case p of {(a, b) -> b}; not b = if b then False else True;
	infixr 3 &&; (&&) a b = if a then b else False; infixr 2 ||; (||) a b = if a then True else b;
	none = []; both = (none, none);
`

// TestSources: P12.5, T6: of programs as people write them, whose answers are known; the names of what they need.
func TestSources(t *testing.T) {
	for _, x := range []struct {
		decls string
		input []int
		want  string
		names string
	}{
		{"main = (id 1, id True);", nil, "done Pair 1 True", "main id{Int} id{Bool}"},
		{"fibs = 0 : 1 : zip (+) fibs (tail fibs); main = take 12 fibs;", nil, "done 0 1 1 2 3 5 8 13 21 34 55 89", "main take{Int} fibs zip{Int,Int,Int} tail{Int}"},
		{"sort [] = []; sort (x : l) = sort (filter (< x) l) ++ [x] ++ sort (filter (>= x) l); main l = sort l;", []int{3, 1, 4, 1, 5, -9, 2, 6}, "done -9 1 1 2 3 4 5 6", "main sort ++{Int} filter{Int}"},
		{"main l = (length [l, l], sum l, map length [l, []]);", []int{5, 6, 7}, "done Triple 2 18 3 0", "main length{(List Int)} sum map{(List Int),Int} length{Int} foldr{(List Int),Int} foldl{Int,Int} foldr{Int,Int}"},
		{"main = (map (+ 1) <.> filter (not <.> (> 2)) <.> id) [1, 2, 3];", nil, "done 2 3", ""},
		{"main = flip const 1 (snd (stop, fst (3, 4)));", nil, "done 3", ""},
		{"main = head $ filter (\\n -> n % 7 == 0 && n > 20 || n == 100) (from 1);", nil, "done 21", ""},
		{"two f x = f (f x); main = two two (two two) (+ 1) 0;", nil, "done 256", "main two{((Int -> Int) -> (Int -> Int))} two{(Int -> Int)} two{Int}"},
		{"main = (1 : fst both, True : fst both);", nil, "done Pair 1 True", "main fst{(List Int),(List Unit)} both{Int,Unit} fst{(List Bool),(List Unit)} both{Bool,Unit} none{Int} none{Unit} none{Bool}"},
		{"data Tree a = Leaf | Node (Tree a) a (Tree a); put x Leaf = Node Leaf x Leaf; put x (Node a y b) = if x < y then Node (put x a) y b else Node a y (put x b); flat Leaf = []; flat (Node a y b) = flat a ++ [y] ++ flat b; main l = flat (foldl (\\t x -> put x t) Leaf l);", []int{5, 2, 8, 1, 9, 3}, "done 1 2 3 5 8 9", "main flat{Int} foldl{(Main.Tree Int),Int} put ++{Int}"},
		{"data Exp = Num Int | Add Exp Exp | Div Exp Exp; eval (Num n) = n; eval (Add a b) = eval a + eval b; eval (Div a b) = eval a / eval b; main = map eval [Add (Num 2) (Num 3), Div (Num 7) (Add (Num 1) (Num (0 - 1)))];", nil, "zero 5", "main map{Main.Exp,Int} eval"},
		{"main = let {l = [1, stop, 3]} in (length l, head l, sum l);", nil, "stop Triple 3 1", ""},
		{"main l = 1 + head (tail l);", []int{1}, "match", ""},
		{"main = let {a = fst (b, 1); b = snd (1, a)} in a + 1;", nil, "loop", ""},
		{"loop = id loop; main = 1 + loop;", nil, "loop", ""},
		{"main = iterate (* 2) 1;", nil, "fuel 1 2 4 8", "main iterate{Int}"},
	} {
		p, err := elab.Elab([]string{"module Main; " + prelude + x.decls})
		if err != nil {
			t.Errorf("the test is wrong: %s: %v", x.decls, err)
			continue
		}
		q := made(t, p, "Main.main")
		if got := strings.ReplaceAll(names(q), "Main.", ""); x.names != "" && got != strings.ReplaceAll(x.names, "Main.", "") {
			t.Errorf("%s: made are %s, want %s", x.decls, got, x.names)
		}
		checkMeaning(t, p, q, "Main.main", x.input, 60000)
		o := run(t, q, "Main.main", x.input, 60000)
		got := ending(o)
		for _, s := range strings.Fields(told(o))[1:] {
			if s != "Cons" && s != "Nil" { // a list is told by its elements, for short
				got += " " + s
			}
		}
		if got != x.want && (o.Kind != api.OutOfFuel || !strings.HasPrefix(got, x.want)) {
			t.Errorf("%s: %s, want %s", x.decls, short(got), x.want)
		}
	}
}
