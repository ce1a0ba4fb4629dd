package peep_test

import (
	"fmt"
	"slices"
	"testing"

	"sloth/api"
	"sloth/compile"
	"sloth/core"
	"sloth/elab"
	"sloth/lift"
	"sloth/mono"
	"sloth/simplify"
	"sloth/worker"
)

func isBeginning(a, b []api.Item) bool { return len(a) <= len(b) && slices.Equal(a, b[:len(a)]) }

// checkRun: P19.4: a run of the answer is that of the table, in as many steps or fewer; under way it has told as much, or more. It answers both runs.
func checkRun(t *testing.T, x, y api.Table, entry string, input []int, fuel int) (api.Outcome, api.Outcome) {
	t.Helper()
	a, b := runTable(x, entry, input, fuel), runTable(y, entry, input, fuel)
	ok := b.Steps <= a.Steps && isBeginning(a.Told, b.Told)
	if a.Kind != api.OutOfFuel {
		ok = ok && a.Kind == b.Kind && a.Stuck == b.Stuck && slices.Equal(a.Told, b.Told)
	}
	if !ok {
		t.Fatalf("%s, input %d: it tells %v, and then %v:\n%s\n%s", entry, input, a, b, shown(x), shown(y))
	}
	return a, b
}

// ending tells in a word how a run ended.
func ending(o api.Outcome) string {
	if o.Kind == api.Stuck {
		return fmt.Sprint("stuck ", o.Stuck)
	}
	return map[int]string{api.Done: "done", api.OutOfFuel: "fuel"}[o.Kind]
}

// TestRuns: P19.4: of tables made at random.
func TestRuns(t *testing.T) {
	t.Parallel()
	met := map[string]int{}
	many(t, 5, 20000, func(m *maker) {
		y := peeped(t, m.table)
		for _, g := range m.table.Globals {
			for _, fuel := range []int{5 + m.Intn(20), 300} {
				a, b := checkRun(t, m.table, y, g.Name, []int{0, 1, 2}[:m.Intn(4)], fuel)
				if b.Steps < a.Steps {
					met["fewer "+ending(a)]++
				}
				if len(b.Told) > len(a.Told) || ending(a) != ending(b) {
					met["more"]++
				}
				met[ending(a)]++
			}
		}
	})
	t.Log(met)
	for _, s := range []string{"done", "fuel", "more", "stuck 1", "stuck 2", "stuck 3", "stuck 4", "stuck 5", "fewer done", "fewer stuck 2", "fewer stuck 4"} {
		if met[s] < 50 {
			t.Error("too seldom:", s, met[s])
		}
	}
}

const prelude = `
	map f l = case l of {[] -> []; x : k -> f x : map f k};
	filter p l = case l of {[] -> []; x : k -> if p x then x : filter p k else filter p k};
	foldl f z [] = z; foldl f z (x : l) = foldl f (f z x) l;
	infixr 5 ++; (++) k l = case k of {[] -> l; x : r -> x : (r ++ l)};
	take 0 l = []; take n [] = []; take n (x : l) = x : take (n - 1) l;
	zip f (x : k) (y : l) = f x y : zip f k l; zip f k l = [];
	from n = n : from (n + 1); tail (x : l) = l; fst p = case p of {(a, b) -> a};
	ack m n = if m == 0 then n + 1 else if n == 0 then ack (m - 1) 1 else ack (m - 1) (ack m (n - 1));
`

// tables are those of a source: slow, and fast.
func tables(t *testing.T, decls string) []api.Table {
	t.Helper()
	p, err := elab.Elab([]string{"module Main; " + prelude + decls})
	if err != nil {
		t.Fatalf("the test is wrong: %s: %v", decls, err)
	}
	entry := func(p api.Program) (api.Program, api.Errno) { return mono.Mono(p, "Main.main") }
	simpler := func(p api.Program) (api.Program, api.Errno) { return simplify.Simplify(p, 2) }
	var l []api.Table
	for _, passes := range [][]func(p api.Program) (api.Program, api.Errno){{entry, lift.Lift}, {simpler, entry, lift.Lift, worker.Split}} {
		q := p
		for _, pass := range passes {
			var e api.Errno
			if q, e = pass(q); e != api.OK {
				t.Fatal(decls, e)
			}
		}
		x, e := compile.Compile(q)
		if e != api.OK {
			t.Fatal(decls, e)
		}
		l = append(l, x)
	}
	return l
}

// TestSources: P19.1, P19.3, P19.4: tables of programs as people write them.
func TestSources(t *testing.T) {
	for _, x := range []struct {
		decls string
		input []int
		want  string
	}{
		{"main = 2 + 3 * 4;", nil, "done"},
		{"main = [1 / 0, 2];", nil, "stuck 3"},
		{"main = ack 2 2;", nil, "done"},
		{"main l = foldl (+) 1 (map (* 2) (filter (> 2) l));", []int{1, 2, 3, 4}, "done"},
		{"primes = let {sieve (p : l) = p : sieve (filter (\\n -> n % p /= 0) l)} in sieve (from 2); main = take 6 primes;", nil, "done"},
		{"fibs = let {l = 0 : 1 : zip (+) l (tail l)} in l; main = fibs;", nil, "fuel"},
		{"sort [] = []; sort (x : l) = sort (filter (< x) l) ++ [x] ++ sort (filter (>= x) l); main l = sort l;", []int{3, 1, 4, 1, 5, -9, 2, 6}, "done"},
		{"data Tree a = Leaf | Node (Tree a) a (Tree a); put x t = case t of {Leaf -> Node Leaf x Leaf; Node a y b -> if x < y then Node (put x a) y b else Node a y (put x b)}; flat t r = case t of {Leaf -> r; Node a y b -> flat a (y : flat b r)}; main l = flat (foldl (\\t x -> put x t) Leaf l) [];", []int{5, 2, 8, 1, 9, 3}, "done"},
		{"color 0 = (); color 1 = (); main = case if 1 < 2 then 3 else 4 of {3 -> color 2; n -> color n};", nil, "stuck 2"},
		{"main = let {a = fst (b, 1); b = a + 1} in a + 1;", nil, "stuck 4"},
		{"main l = (stop + 1) : l;", []int{1}, "stuck 1"},
	} {
		for _, table := range tables(t, x.decls) {
			y, _ := checkPlain(t, table)
			a, _ := checkRun(t, table, y, "Main.main", x.input, 50000)
			if ending(a) != x.want {
				t.Errorf("%s: %v", x.decls, short(fmt.Sprint(a)))
			}
			checkMemory(t, table)
		}
	}
}

// TestKnown: P19.4: cases of what is known, as a program that nobody made simpler may have them, take fewer steps.
func TestKnown(t *testing.T) {
	for text, want := range map[string]int{
		`3`:                                     3,
		`(case 3 (int 1 2) (int 3 5) (else 7))`: 5,
		`(case 4 (int 1 2) (int 3 5) (else 7))`: 7,
		`(case (con "Nil" Int) (con "Cons" ("x" "t") "x") (con "Nil" () 5))`:                                5,
		`(case (app (app (con "Cons" Int) 5) (con "Nil" Int)) (con "Nil" () 7) (con "Cons" ("x" "t") "x"))`: 5,
	} {
		p, e := core.Read(`(def "m" () Int ` + text + `)`)
		if e != api.OK {
			t.Fatal(text, e)
		}
		x, e := compile.Compile(p)
		if e != api.OK {
			t.Fatal(text, e)
		}
		y, deeds := checkPlain(t, x)
		a, b := checkRun(t, x, y, "m", nil, 100)
		if a.Kind != api.Done || a.Told[0].Num != want || (b.Steps < a.Steps) != (text != "3") || (len(deeds) > 0) != (text != "3") {
			t.Errorf("%s: %v, %v, by %v", text, a, b, deeds)
		}
	}
}
