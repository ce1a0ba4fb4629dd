package meaning_test

import (
	"fmt"
	"slices"
	"strings"
	"testing"

	"sloth/api"
	"sloth/elab"
)

// TestWhole: DOC.md: the examples of the whole, as far as there is a program (T1).
func TestWhole(t *testing.T) {
	checkSource(t, "main = 2 + 3 * 4;", nil, 10000, "done: 14")
	checkSource(t, "main = let { ones = 1 : ones } in ones;", nil, 24, "fuel:"+strings.Repeat(" Cons 1", 8))
	checkSource(t, "main = [1 / 0, 2];", nil, 10000, "zero: Cons")
	checkSource(t, "double x = x * 2; map f l = case l of { [] -> []; x : t -> f x : map f t }; main xs = map double xs;", []int{3, 4}, 10000, "done: Cons 6 Cons 8 Nil")
	p, err := elab.Elab([]string{"module Lib; infixr 5 ++; (++) [] l = l; (++) (x : t) l = x : (t ++ l);", "module Main; import Lib; main = [1] ++ [2] ++ [];"})
	if err != nil {
		t.Fatal(err)
	}
	if o := run(t, p, "Main.main", nil, 10000); o.Kind != api.Done || items(o.Told) != " Cons 1 Cons 2 Nil" {
		t.Error(told(o))
	}
	checkSource(t, "id x = x; main = (id 1, id True);", nil, 10000, "done: Pair 1 True")
	checkSource(t, "f 0 = 1; f (n) = case n of { 1 -> 2 }; main = f 3;", nil, 10000, "match:")
	checkSource(t, "main = let { x = x + 1 } in x;", nil, 10000, "loop:")
	checkSource(t, "grow l = grow (1 : l); main :: Int; main = grow [];", nil, 10000, "fuel:") // without a signature it has a type parameter
}

const prelude = `
	map f [] = []; map f (x : l) = f x : map f l;
	filter p [] = []; filter p (x : l) = if p x then x : filter p l else filter p l;
	foldr f z [] = z; foldr f z (x : l) = f x (foldr f z l);
	foldl f z [] = z; foldl f z (x : l) = foldl f (f z x) l;
	infixr 5 ++; (++) [] l = l; (++) (x : k) l = x : (k ++ l);
	take 0 l = []; take n [] = []; take n (x : l) = x : take (n - 1) l;
	zip f (x : k) (y : l) = f x y : zip f k l; zip f k l = [];
	from n = n : from (n + 1);
	iterate f x = x : iterate f (f x);
	until n = if n == 0 then [] else until (n - 1) ++ [n];
	sum = foldl (+) 0; length = foldr (\x n -> n + 1) 0;
	tail (x : l) = l; head (x : l) = x;
`

// TestSources: programs as people write them, whose answers are known; the second form tells the same, with the steps.
func TestSources(t *testing.T) {
	for _, x := range []struct {
		decls string
		input []int
		want  string
	}{
		{"sieve (p : l) = p : sieve (filter (\\n -> n % p /= 0) l); main = take 10 (sieve (from 2));", nil, "done: 2 3 5 7 11 13 17 19 23 29"},
		{"fibs = 0 : 1 : zip (+) fibs (tail fibs); main = take 12 fibs;", nil, "done: 0 1 1 2 3 5 8 13 21 34 55 89"},
		{"sort [] = []; sort (x : l) = sort (filter (< x) l) ++ [x] ++ sort (filter (>= x) l); main l = sort l;", []int{3, 1, 4, 1, 5, -9, 2, 6}, "done: -9 1 1 2 3 4 5 6"},
		{"main l = (sum l, length l);", []int{5, 6, 7}, "done: Pair 18 3"},
		{"main :: [Int] -> [Int]; main l = foldl (\\k x -> x : k) [] l;", []int{5, 6, 7}, "done: 7 6 5"},
		{"ack 0 n = n + 1; ack m 0 = ack (m - 1) 1; ack m n = ack (m - 1) (ack m (n - 1)); main = ack 2 3;", nil, "done: 9"},
		{"hanoi 0 a b c = []; hanoi n a b c = hanoi (n - 1) a c b ++ [(a, b)] ++ hanoi (n - 1) c b a; main = length (hanoi 6 1 2 3);", nil, "done: 63"},
		{"safe q d [] = True; safe q d (x : l) = if q == x then False else if q == x + d then False else if q == x - d then False else safe q (d + 1) l; place n 0 = [[]]; place n k = foldr (\\b r -> foldr (\\q s -> if safe q 1 b then (q : b) : s else s) r (until n)) [] (place n (k - 1)); main = (length (place 5 5), head (place 5 5));", nil, "done: Pair 10 4 2 5 3 1"},
		{"data Tree = Leaf | Node Tree Int Tree; put x Leaf = Node Leaf x Leaf; put x (Node a y b) = if x < y then Node (put x a) y b else Node a y (put x b); flat Leaf = []; flat (Node a y b) = flat a ++ [y] ++ flat b; main l = flat (foldl (\\t x -> put x t) Leaf l);", []int{5, 2, 8, 1, 9, 3}, "done: 1 2 3 5 8 9"},
		{"data Tree = Leaf Int | Node Tree Tree; go (Leaf n) m = (n, Leaf m); go (Node a b) m = case go a m of {(x, c) -> case go b m of {(y, d) -> (if x < y then x else y, Node c d)}}; main = let {r = go (Node (Node (Leaf 4) (Leaf 2)) (Leaf 7)) (first r); first p = case p of {(n, t) -> n}; second p = case p of {(n, t) -> t}} in second r;", nil, "done: Main.Node Main.Node Main.Leaf 2 Main.Leaf 2 Main.Leaf 2"},
		{"two f x = f (f x); main = two two (two two) (+ 1) 0;", nil, "done: 256"},
		{"y f = let {x = f x} in x; main = map (y (\\r n -> if n < 2 then 1 else n * r (n - 1))) [5, 10, 20, 25];", nil, "done: 120 3628800 2432902008176640000 -2188836759280812032"},
		{"merge (x : k) (y : l) = if x < y then x : merge k (y : l) else if y < x then y : merge (x : k) l else x : merge k l; ham = 1 : merge (map (* 2) ham) (merge (map (* 3) ham) (map (* 5) ham)); main = take 15 ham;", nil, "done: 1 2 3 4 5 6 8 9 10 12 15 16 18 20 24"},
		{"even 0 = True; even n = odd (n - 1); odd 0 = False; odd n = even (n - 1); main l = map even l;", []int{0, 1, 10, 31}, "done: True False True False"},
		{"pascal = iterate (\\r -> zip (+) (0 : r) (r ++ [0])) [1]; main = head (tail (tail (tail (tail pascal))));", nil, "done: 1 4 6 4 1"},
		{"collatz 1 = 0; collatz n = 1 + collatz (if n % 2 == 0 then n / 2 else 3 * n + 1); main l = map collatz l;", []int{1, 6, 7, 19}, "done: 0 8 16 20"},
		{"data Exp = Num Int | Add Exp Exp | Mul Exp Exp | Div Exp Exp; eval (Num n) = n; eval (Add a b) = eval a + eval b; eval (Mul a b) = eval a * eval b; eval (Div a b) = eval a / eval b; main = [eval (Add (Num 2) (Mul (Num 3) (Num 4))), eval (Div (Num 7) (Num 2)), eval (Div (Num 7) (Add (Num 1) (Num (0 - 1))))];", nil, "zero: 14 3"},
		{"main = \"lazy\";", nil, "done: 108 97 122 121"},
		{"data Nat = Z | S Nat; add Z n = n; add (S m) n = S (add m n); main = add (S (S Z)) (S Z);", nil, "done: Main.S Main.S Main.S Main.Z"},
		{"main l = case l of {[] -> stop; x : t -> seq (sum t) x};", []int{7, 1, 2}, "done: 7"},
		{"main l = case l of {[] -> stop; x : t -> seq (sum (map (6 /) t)) x};", []int{7, 1, 0, 2}, "zero:"},
		{"main = let {l = [1, stop, 3]} in (length l, head l, sum l);", nil, "stop: Triple 3 1"},
	} {
		p, err := elab.Elab([]string{"module Main; " + prelude + x.decls})
		if err != nil {
			t.Errorf("the test is wrong: %s: %v", x.decls, err)
			continue
		}
		o := run(t, p, "Main.main", x.input, api.MaxSteps)
		end, what, _ := strings.Cut(told(o), ":")
		got := strings.Fields(end)[0] + ":"
		for _, s := range strings.Fields(what) {
			if s != "Cons" && s != "Nil" { // the list is told by its elements, for short
				got += " " + s
			}
		}
		if got != x.want {
			t.Errorf("%s: %s, want %s", x.decls, got, x.want)
		}
		if second := plainRun(p, "Main.main", x.input, api.MaxSteps); told(second) != told(o) {
			t.Errorf("%s: %s, the second form says %s", x.decls, told(o), told(second))
		}
		for fuel := 1; fuel < o.Steps; fuel += 1 + o.Steps/20 {
			if less := run(t, p, "Main.main", x.input, fuel); less.Kind != api.OutOfFuel || less.Steps != fuel || !slices.Equal(less.Told, o.Told[:len(less.Told)]) {
				t.Errorf("%s: with fuel %d %s, in all %s", x.decls, fuel, told(less), told(o))
			}
		}
	}
}

// TestTyped: T5: of a source that Elab takes nothing but an outcome comes, whichever definition is the entry.
func TestTyped(t *testing.T) {
	p, err := elab.Elab([]string{"module Main; " + prelude + "main = take 3 (from 1); other l = map (+ 1) l; twice = (main, main); none = length [];"})
	if err != nil {
		t.Fatal(err)
	}
	for _, x := range []struct {
		entry, want string
	}{
		{"main", "done: Cons 1 Cons 2 Cons 3 Nil"},
		{"other", "done: Cons 6 Cons 7 Nil"},
		{"twice", "done: Pair Cons 1 Cons 2 Cons 3 Nil Cons 1 Cons 2 Cons 3 Nil"},
		{"none", "done: 0"},
		{"sum", "done: 11"},
	} {
		end, what, _ := strings.Cut(told(run(t, p, "Main."+x.entry, []int{5, 6}, 10000)), ":")
		if got := fmt.Sprint(strings.Fields(end)[0], ":", what); got != x.want {
			t.Errorf("%s: %s, want %s", x.entry, got, x.want)
		}
	}
	for _, entry := range []string{"map", "from", "take", "head", "length", "iterate"} {
		checkRefused(t, p, "Main."+entry, nil, 10000, api.ErrMeaningEntry)
	}
}
