package simplify_test

import (
	"slices"
	"strings"
	"testing"

	"sloth/api"
	"sloth/elab"
	"sloth/simplify"
)

func isBeginning(a, b []api.Item) bool { return len(a) <= len(b) && slices.Equal(a, b[:len(a)]) }

// checkMeaning: P11.4: what p means and what q, which p was simplified to, means: with the same fuel, and with others. It answers how p ended.
func checkMeaning(t *testing.T, p, q api.Program, entry string, input []int, fuel int) string {
	t.Helper()
	whole := run(t, p, entry, input, fuel)
	fuels := []int{0, whole.Steps / 3, whole.Steps - 1, whole.Steps, whole.Steps + 1, fuel, 2 * fuel}
	var ahead, behind []api.Outcome
	for _, n := range fuels {
		n = max(n, 0)
		a, b := run(t, p, entry, input, n), run(t, q, entry, input, n)
		ahead, behind = append(ahead, a), append(behind, b)
		ends := a.Kind == api.Done || a.Kind == api.Stuck
		if ends && (b.Kind != a.Kind || b.Stuck != a.Stuck || !slices.Equal(a.Told, b.Told)) || a.Kind == api.Done && b.Steps > a.Steps {
			t.Fatalf("%s, input %d, fuel %d: %s ahead, %s behind:\n%s\n%s", entry, input, n, short(told(a)), short(told(b)), printed(p), printed(q))
		}
	}
	for i, a := range ahead {
		for j, b := range behind {
			if !isBeginning(a.Told, b.Told) && !isBeginning(b.Told, a.Told) {
				t.Fatalf("%s, input %d: with fuel %d %s ahead, with fuel %d %s behind:\n%s\n%s", entry, input, fuels[i], short(told(a)), fuels[j], short(told(b)), printed(p), printed(q))
			}
		}
	}
	end, _, _ := strings.Cut(told(whole), " ")
	return end
}

// TestMeaning: P11.4: of programs made at random.
func TestMeaning(t *testing.T) {
	t.Parallel()
	met, fewer := map[string]int{}, map[string]int{}
	many(t, 6, 250, func(k *maker) {
		for _, rounds := range []int{1, 1 + k.Intn(api.MaxRounds), api.MaxRounds} {
			q, code := simplify.Simplify(k.Program, rounds)
			if code != api.OK {
				continue
			}
			for _, entry := range k.entries() {
				input := k.input()
				end := checkMeaning(t, k.Program, q, entry, input, pick(k.Rand, 50, 400, 4000))
				met[end]++
				if a, b := run(t, k.Program, entry, input, 4000), run(t, q, entry, input, 4000); b.Steps < a.Steps {
					fewer[end]++
				}
			}
		}
	})
	t.Log(met, fewer)
	for _, end := range []string{"done", "stop", "match", "zero", "loop", "fuel"} {
		if met[end] < 30 || end != "fuel" && fewer[end] < 10 {
			t.Errorf("%s is met %d times, with fewer steps behind %d times", end, met[end], fewer[end])
		}
	}
}

// TestMeaningByHand: P11.4: of programs by hand, in each of which some rule could make another of it.
func TestMeaningByHand(t *testing.T) {
	const no = `(def "no" () (Int -> Int) (lam "n" Int (app (global "no") "n")))`
	for _, x := range []struct{ typ, body, want string }{
		// the argument is worked out once, when it is needed, or never
		{"(Pair Int Int)", `(app (lam "x" Int (app (app (con "Pair" Int Int) "x") "x")) (op * 2 3))`, "done Pair 6 6"},
		{"Int", `(app (lam "x" Int 1) (app (global "no") 2))`, "done 1"},
		{"Int", `(app (lam "x" Int (seq "x" 1)) (fail 1 Int))`, "stop"},
		{"Int", `(app (lam "x" Int (seq "x" 1)) (app (global "no") 2))`, "fuel"},
		// what is stuck first counts
		{"Int", `(op + (fail 1 Int) (op / 1 0))`, "stop"},
		{"Int", `(op + (op / 1 0) (fail 1 Int))`, "zero"},
		{"Int", `(op + (case 1 (int 2 3)) (fail 1 Int))`, "match"},
		{"Int", `(case (seq (op / 1 0) 1) (int 2 3))`, "zero"},
		{"Int", `(app (fail 4 (Int -> Int)) (op / 1 0))`, "loop"},
		{"Int", `(let (("x" Int "y") ("y" Int "x")) (op + "x" (fail 1 Int)))`, "loop"},
		{"Int", `(let (("x" Int (op + "x" 1))) (case (con "True") (con "True" () "x")))`, "loop"},
		{"Int", `(let (("x" Int (global "main"))) (op + 1 "x"))`, "loop"},
		{"Int", `(let (("x" Int (app (global "no") 1))) (op + (fail 1 Int) "x"))`, "stop"},
		// told as far as it goes
		{"(List Int)", `(app (app (con "Cons" Int) (op + 1 1)) (app (app (con "Cons" Int) (op / 1 0)) (con "Nil" Int)))`, "zero Cons 2 Cons"},
		{"(List Int)", `(let (("x" (List Int) (app (app (con "Cons" Int) (op + 1 1)) "x"))) "x")`, "fuel Cons 2 Cons 2"},
		{"(List Int)", `(app (app (con "Cons" Int) 1) (case (con "Nil" Int) (con "Cons" ("a" "b") "b")))`, "match Cons 1"},
		{"(List Int)", `(app (app (con "Cons" Int) 1) (app (app (con "Cons" Int) (app (global "no") 1)) (fail 1 (List Int))))`, "fuel Cons 1 Cons"},
		// fields that nobody looks at
		{"Int", `(case (app (app (con "Pair" Int Int) (fail 1 Int)) 2) (con "Pair" ("x" "y") "y"))`, "done 2"},
		{"Int", `(case (app (app (con "Pair" Int Int) (fail 1 Int)) 2) (con "Pair" ("x" "y") (op + "y" "x")))`, "stop"},
		{"Int", `(seq (app (con "Cons" Int) (fail 1 Int)) 3)`, "done 3"},
		{"Int", `(seq (lam "x" Int (fail 1 Int)) 3)`, "done 3"},
		// a hard is worked out, though nobody needs it
		{"Int", `(hard "x" Int (fail 2 Int) 3)`, "match"},
		{"Int", `(let (("x" Int (fail 2 Int))) (hard "y" Int "x" 3))`, "match"},
		// once outside of a lambda that is called twice
		{"Int", `(let (("x" Int (op * 3 4))) (let (("h" (Int -> Int) (lam "n" Int (op + "x" "n")))) (op + (app "h" 1) (app "h" 2))))`, "done 27"},
	} {
		text := `(def "main" () ` + x.typ + ` ` + x.body + `) ` + no
		p := read(t, text)
		o := run(t, p, "main", nil, 2000)
		end, items, _ := strings.Cut(told(o), ":")
		if got := strings.Fields(end)[0] + items; !strings.HasPrefix(got, x.want) {
			t.Errorf("the test is wrong: %s: %s", x.body, short(got))
		}
		for rounds := range api.MaxRounds + 1 {
			checkMeaning(t, p, simple(t, p, rounds), "main", nil, 2000)
		}
	}
}

const prelude = `
	map f [] = []; map f (x : l) = f x : map f l;
	filter p [] = []; filter p (x : l) = if p x then x : filter p l else filter p l;
	foldr f z [] = z; foldr f z (x : l) = f x (foldr f z l);
	foldl f z [] = z; foldl f z (x : l) = foldl f (f z x) l;
	infixr 5 ++; (++) [] l = l; (++) (x : k) l = x : (k ++ l);
	take 0 l = []; take n [] = []; take n (x : l) = x : take (n - 1) l;
	zip f (x : k) (y : l) = f x y : zip f k l; zip f k l = [];
	from n = n : from (n + 1);
	iterate f x = x : iterate f (f x);
	sum = foldl (+) 0; length = foldr (\x n -> n + 1) 0;
	tail (x : l) = l; head (x : l) = x;
	id x = x; const x y = x; flip f x y = f y x; infixr 9 <.>; (<.>) f g x = f (g x); infixr 0 $; ($) f x = f x;
	fst p = case p of {(a, b) -> a}; snd p = case p of {(a, b) -> b}; not b = if b then False else True;
	infixr 3 &&; (&&) a b = if a then b else False; infixr 2 ||; (||) a b = if a then True else b;
`

// TestSources: P11.4, T6: of programs as people write them; the small definitions of their prelude are called all over.
func TestSources(t *testing.T) {
	for _, x := range []struct {
		decls string
		input []int
		want  string
	}{
		{"sieve (p : l) = p : sieve (filter (\\n -> n % p /= 0) l); main = take 10 (sieve (from 2));", nil, "done 2 3 5 7 11 13 17 19 23 29"},
		{"fibs = 0 : 1 : zip (+) fibs (tail fibs); main = take 12 fibs;", nil, "done 0 1 1 2 3 5 8 13 21 34 55 89"},
		{"sort [] = []; sort (x : l) = sort (filter (< x) l) ++ [x] ++ sort (filter (>= x) l); main l = sort l;", []int{3, 1, 4, 1, 5, -9, 2, 6}, "done -9 1 1 2 3 4 5 6"},
		{"main l = (sum l, length l);", []int{5, 6, 7}, "done Pair 18 3"},
		{"main = (map (+ 1) <.> filter (not <.> (> 2)) <.> id) [1, 2, 3];", nil, "done 2 3"},
		{"main = flip const 1 (snd (stop, fst (3, 4)));", nil, "done 3"},
		{"main = head $ filter (\\n -> n % 7 == 0 && n > 20 || n == 100) (from 1);", nil, "done 21"},
		{"swap p = (snd p, fst p); main = swap (swap (1, [True]));", nil, "done Pair 1 True"},
		{"ack 0 n = n + 1; ack m 0 = ack (m - 1) 1; ack m n = ack (m - 1) (ack m (n - 1)); main = ack 2 3;", nil, "done 9"},
		{"data Tree = Leaf | Node Tree Int Tree; put x Leaf = Node Leaf x Leaf; put x (Node a y b) = if x < y then Node (put x a) y b else Node a y (put x b); flat Leaf = []; flat (Node a y b) = flat a ++ [y] ++ flat b; main l = flat (foldl (\\t x -> put x t) Leaf l);", []int{5, 2, 8, 1, 9, 3}, "done 1 2 3 5 8 9"},
		{"two f x = f (f x); main = two two (two two) (+ 1) 0;", nil, "done 256"},
		{"y f = let {x = f x} in x; main = map (y (\\r n -> if n < 2 then 1 else n * r (n - 1))) [5, 10, 20, 25];", nil, "done 120 3628800 2432902008176640000 -2188836759280812032"},
		{"data Exp = Num Int | Add Exp Exp | Div Exp Exp; eval (Num n) = n; eval (Add a b) = eval a + eval b; eval (Div a b) = eval a / eval b; main = [eval (Add (Num 2) (Num 3)), eval (Div (Num 7) (Add (Num 1) (Num (0 - 1))))];", nil, "zero 5"},
		{"main = let {l = [1, stop, 3]} in (length l, head l, sum l);", nil, "stop Triple 3 1"},
		{"main l = 1 + head (tail l);", []int{1}, "match"},
		{"main = let {a = fst (b, 1); b = snd (1, a)} in a + 1;", nil, "loop"},
		{"main = iterate (* 2) 1;", nil, "fuel 1 2 4 8"},
		{"data Nat = Z | S Nat; add Z n = n; add (S m) n = S (add m n); main = add (S (S Z)) (S Z);", nil, "done Main.S Main.S Main.S Main.Z"},
	} {
		p, err := elab.Elab([]string{"module Main; " + prelude + x.decls})
		if err != nil {
			t.Errorf("the test is wrong: %s: %v", x.decls, err)
			continue
		}
		ahead := run(t, p, "Main.main", x.input, 60000)
		for rounds := range api.MaxRounds + 1 {
			q := simple(t, p, rounds)
			checkMeaning(t, p, q, "Main.main", x.input, 60000)
			o := run(t, q, "Main.main", x.input, 60000)
			end, items, _ := strings.Cut(told(o), ":")
			got := strings.Fields(end)[0]
			for _, s := range strings.Fields(items) {
				if s != "Cons" && s != "Nil" { // the list is told by its elements, for short
					got += " " + s
				}
			}
			if got != x.want && (o.Kind != api.OutOfFuel || !strings.HasPrefix(got, x.want)) {
				t.Errorf("%s, %d rounds: %s, want %s", x.decls, rounds, short(got), x.want)
			}
			if rounds == api.MaxRounds {
				t.Logf("%s: %d steps ahead, %d behind", end, ahead.Steps, o.Steps)
			}
		}
	}
}
