package strict_test

import (
	"testing"

	"sloth/api"
	"sloth/elab"
	"sloth/lift"
	"sloth/meaning"
	"sloth/mono"
	"sloth/simplify"
)

// nothing makes what does not come to a head form: it is stuck, needs itself, or goes on for ever.
func (k *maker) nothing(t api.Type) api.Expr {
	stuck := api.Expr{Kind: api.ExprFail, Num: 1 + k.Intn(4), Types: []api.Type{t}}
	switch k.Intn(3) {
	case 0:
		return stuck
	case 1:
		b := k.local(t)
		b.Value = api.Expr{Kind: api.ExprVar, Name: b.Name}
		return api.Expr{Kind: api.ExprLet, Binds: []api.Bind{b}, Args: []api.Expr{b.Value}}
	}
	forever := call(api.Expr{Kind: api.ExprGlobal, Name: "forever"}, number(1))
	return api.Expr{Kind: api.ExprCase, Args: []api.Expr{forever}, Alts: []api.Alt{{Kind: api.AltElse, Body: stuck}}}
}

// barred makes something with which, in the place of a parameter with that number, a call comes to nothing.
func (k *maker) barred(number int, t api.Type) api.Expr {
	isList := t.Kind == api.TyData && t.Name == "List"
	switch n := 1 + k.Intn(number); {
	case n == 1:
		return k.nothing(t)
	case !isList || n == 4:
		return k.expr(t, nil, k.Intn(4))
	case n == 2:
		return k.cell(t, k.some, k.endless)
	}
	return k.cell(t, k.nothing, func(t api.Type) api.Expr { return k.cell(t, k.some, k.proper) })
}

// cell makes a list of a head and a tail.
func (k *maker) cell(t api.Type, head, tail func(api.Type) api.Expr) api.Expr {
	return call(api.Expr{Kind: api.ExprCon, Name: "Cons", Types: t.Args}, head(t.Args[0]), tail(t))
}

func (k *maker) some(t api.Type) api.Expr { return k.expr(t, nil, 1) }

// proper makes a list that ends.
func (k *maker) proper(t api.Type) api.Expr {
	if k.Intn(2) == 0 {
		return api.Expr{Kind: api.ExprCon, Name: "Nil", Types: t.Args}
	}
	return k.cell(t, k.some, k.proper)
}

// endless makes a list that never comes to Nil.
func (k *maker) endless(t api.Type) api.Expr {
	switch k.Intn(3) {
	case 0:
		return k.nothing(t)
	case 1:
		return k.cell(t, k.some, k.endless)
	}
	b := k.local(t)
	name := api.Expr{Kind: api.ExprVar, Name: b.Name}
	b.Value = k.cell(t, k.some, func(api.Type) api.Expr { return name })
	return api.Expr{Kind: api.ExprLet, Binds: []api.Bind{b}, Args: []api.Expr{name}}
}

// isNothing runs a call of a definition, with something in one place and whatever else in the others, and tells whether it came to nothing.
func (k *maker) isNothing(t *testing.T, d api.Def, place int, what func(api.Type) api.Expr) bool {
	t.Helper()
	k.def, k.names = len(k.Defs), 0
	e := api.Expr{Kind: api.ExprGlobal, Name: d.Name}
	types, _ := params(d)
	for i, of := range types {
		a := what
		if i != place {
			a = pick(k.Rand, k.some, k.some, k.some, k.nothing)
		}
		e = call(e, a(of))
	}
	main := api.Def{Name: "main", Type: integer, Body: api.Expr{Kind: api.ExprSeq, Args: []api.Expr{e, number(7)}}}
	p := api.Program{Datas: k.Datas, Defs: append(k.Defs[:len(k.Defs):len(k.Defs)], main)}
	o, code := meaning.Run(p, "main", nil, 3000)
	if code != api.OK {
		t.Fatal(code, printed(p))
	}
	if o.Kind == api.Done && len(o.Told) != 1 || o.Kind != api.Done && len(o.Told) != 0 {
		t.Fatal("the test is wrong")
	}
	return o.Kind != api.Done
}

// TestNeeded: P15.3: what a signature bars comes to nothing, whatever else is given.
func TestNeeded(t *testing.T) {
	t.Parallel()
	forever := read(t, fn("forever", "n Int", "Int", global("forever", `(op + "n" 1)`))).Defs[0]
	strictOnes, lazyOnes := map[int]int{}, 0
	many(t, 21, 400, func(k *maker) {
		k.luck = 60
		k.Defs = append(k.Defs, forever)
		for i, s := range analysed(t, k.Program) {
			types, result := params(k.Defs[i])
			for j, number := range s.Args {
				switch {
				case types[j].Kind == api.TyFun || result.Kind == api.TyFun:
				case number == 0 && !k.isNothing(t, k.Defs[i], j, k.nothing):
					lazyOnes++
				case number > 0:
					for range number {
						if !k.isNothing(t, k.Defs[i], j, func(t api.Type) api.Expr { return k.barred(number, t) }) {
							t.Fatalf("%s\n%v: a call is done", printed(k.Program), s)
						}
						strictOnes[number]++
					}
				}
			}
		}
	})
	t.Log(strictOnes, lazyOnes)
	if lazyOnes < 100 {
		t.Error("too few calls were done:", lazyOnes)
	}
	for number := 1; number <= 4; number++ {
		if strictOnes[number] < 100 {
			t.Error("too seldom:", number)
		}
	}
}

// TestSources: P15.1, P15.3: of programs as people write them.
func TestSources(t *testing.T) {
	const source = `module Main;
		map f l = case l of {[] -> []; x : k -> f x : map f k};
		filter p l = case l of {[] -> []; x : k -> if p x then x : filter p k else filter p k};
		foldl f z l = case l of {[] -> z; x : k -> foldl f (f z x) k};
		foldr f z l = case l of {[] -> z; x : k -> f x (foldr f z k)};
		sum l n = case l of {[] -> n; x : k -> sum k (n + x)};
		length l = case l of {[] -> 0; x : k -> 1 + length k};
		take n l = if n == 0 then [] else case l of {[] -> []; x : k -> x : take (n - 1) k};
		infixr 5 ++; (++) k l = case k of {[] -> l; x : r -> x : (r ++ l)};
		last l = case l of {x : k -> case k of {[] -> x; y : r -> last k}};
		fst p = case p of {(a, b) -> a};
		fib n = if n < 2 then n else fib (n - 1) + fib (n - 2);
		ack m n = if m == 0 then n + 1 else if n == 0 then ack (m - 1) 1 else ack (m - 1) (ack m (n - 1));
		const a b = a; gcd a b = if b == 0 then a else gcd b (a % b);
		when b x = if b then x else 0;
		main l = (sum (map (+ 1) (filter (> 2) l)) 0, foldl (+) 0 l + foldr (-) 0 (take 3 (l ++ l)), length l + last l + fib 5 + ack 1 2 + const 1 stop + gcd 6 4 + fst (1, stop) + when (length l > 0) 3);`
	want := map[string]string{
		"Main.map{Int,Int}": "0 1", "Main.filter{Int}": "0 1", "Main.foldl{Int,Int}": "0 0 2", "Main.foldr{Int,Int}": "0 0 1", "Main.sum": "3 1", "Main.length{Int}": "2", "Main.take{Int}": "1 0",
		"Main.++{Int}": "1 0", "Main.last{Int}": "2", "Main.fst{Int,Int}": "1", "Main.fib": "1", "Main.ack": "1 1", "Main.const{Int,Int}": "1 0", "Main.gcd": "1 1", "Main.when": "1 0",
	}
	p, err := elab.Elab([]string{source})
	if err != nil {
		t.Fatal(err)
	}
	for rounds := range 3 {
		simple, code := simplify.Simplify(p, rounds)
		if code != api.OK {
			t.Fatal(code)
		}
		plain, code := mono.Mono(simple, "Main.main")
		if code != api.OK {
			t.Fatal(code)
		}
		q, code := lift.Lift(plain)
		if code != api.OK {
			t.Fatal(code)
		}
		met := 0
		for _, s := range analysed(t, q) {
			if w, ok := want[s.Name]; ok {
				met++
				if told(s) != w {
					t.Errorf("%d rounds: %s: %s, want %s", rounds, s.Name, told(s), w)
				}
			}
		}
		if met < 8 {
			t.Error("only", met, "are left", tellAll(analysed(t, q)))
		}
	}
}
