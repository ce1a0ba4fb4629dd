package strict_test

import (
	"fmt"
	"math/big"
	"math/rand"
	"slices"
	"testing"

	"sloth/api"
	"sloth/strict"
)

// seen counts what was met, so that a test says when it met too little.
type seen struct {
	defs, known int
	numbers     map[int]int // how often which number was told
	kinds       map[int]int // how often which kind of expression stood there
}

func newSeen() *seen { return &seen{numbers: map[int]int{}, kinds: map[int]int{}} }

func (s *seen) note(x api.Signature, body *tree) {
	s.defs++
	if x.Known {
		s.known++
		for _, n := range x.Args {
			s.numbers[n]++
		}
	}
	s.count(body)
}

func (s *seen) count(x *tree) {
	s.kinds[x.Kind]++
	for _, y := range slices.Concat(x.args, x.values, x.bodies) {
		s.count(y)
	}
}

// upTo: a number is as great as it is, or more than MaxWork as that is.
func upTo(got int, want *big.Int) bool {
	if want.Cmp(big.NewInt(api.MaxWork)) > 0 {
		return got == api.MaxWork+1
	}
	return int64(got) == want.Int64()
}

// checkPlain: a program's weights, tables and signatures are what the second form says.
func (s *seen) checkPlain(t *testing.T, p api.Program) {
	t.Helper()
	k := newPlain(p)
	weights, points := k.know()
	k.workOut()
	got, inside := analysed(t, p), strict.Look(p)
	for i, d := range p.Defs {
		in, want := inside[i], k.signature(d)
		if !upTo(in.Weight, weights[i]) || !upTo(in.Points, points[i]) {
			t.Fatalf("%s\n%s weighs %v and has %v points, want %v and %v", printed(p), d.Name, in.Weight, in.Points, weights[i], points[i])
		}
		if !slices.Equal(in.Table, k.tables[d.Name]) {
			t.Fatalf("%s\n%s has the table %v, want %v", printed(p), d.Name, in.Table, k.tables[d.Name])
		}
		if got[i].Known != want.Known || !slices.Equal(got[i].Args, want.Args) {
			t.Fatalf("%s\n%s: %v, want %v", printed(p), d.Name, got[i], want)
		}
		s.note(want, k.trees[d.Name])
	}
}

// TestPlain: P15.1: programs made at random against the second form.
func TestPlain(t *testing.T) {
	t.Parallel()
	for seed := range int64(3) {
		t.Run(fmt.Sprint(seed), func(t *testing.T) {
			t.Parallel()
			s := newSeen()
			many(t, seed, 130, func(k *maker) { s.checkPlain(t, k.Program) })
			t.Log(*s)
			for number := range 5 {
				if s.numbers[number] < 40 {
					t.Error("too seldom:", number)
				}
			}
			for kind := api.ExprVar; kind <= api.ExprFail; kind++ {
				if s.kinds[kind] < 100 {
					t.Error("too seldom: the kind", kind)
				}
			}
			if s.known == s.defs {
				t.Error("all are known")
			}
		})
	}
}

// heavy makes a program whose groups take a great part of MaxWork each.
func heavy(r *rand.Rand) string {
	n := 1 + r.Intn(6)
	text := ""
	for i := range n {
		params := pick(r, "", "", "x Int", "l (List Int)", "x Int, y Bool, u "+unknown, "f (Int -> Int), l (List Int)", "a (List Int), b (List Int), c (List Int), d (List Int), e (List Int), f (List Int)")
		result := pick(r, "Int", "Int", list, flat, unknown)
		body := weighing(pick(r, 1, 3, 5, 3+r.Intn(100), 3+r.Intn(10000), 3+r.Intn(api.MaxWork), api.MaxWork>>r.Intn(12)+r.Intn(3)))
		for range r.Intn(3) {
			body = seq(fmt.Sprintf(`(global "f%d")`, r.Intn(n)), body)
		}
		if r.Intn(3) == 0 {
			body = `(let (("n" Int ` + body + `) ("m" ` + pick(r, "Int", list, flat) + ` "m")) "n")`
		}
		text += fn(fmt.Sprint("f", i), params, result, seq(body, fail(result)))
	}
	return text
}

// TestPlainKnown: P15.1: which definitions of heavy programs are known, and what they weigh, against the second form.
func TestPlainKnown(t *testing.T) {
	t.Parallel()
	r, met := rand.New(rand.NewSource(8)), map[bool]int{}
	for range 300 {
		p := read(t, heavy(r))
		k := newPlain(p)
		weights, points := k.know()
		got, inside := analysed(t, p), strict.Look(p)
		for i, d := range p.Defs {
			if got[i].Known != k.known[d.Name] || !upTo(inside[i].Weight, weights[i]) || !upTo(inside[i].Points, points[i]) {
				t.Fatalf("%s\n%v; %s weighs %v and has %v points; want %v, %v, %v", printed(p), got[i], d.Name, inside[i].Weight, inside[i].Points, k.known[d.Name], weights[i], points[i])
			}
			met[got[i].Known]++
		}
	}
	if met[true] < 100 || met[false] < 100 {
		t.Error(met)
	}
}
