package types_test

import (
	"fmt"
	"math/rand"
	"slices"
	"strings"
	"testing"
	"time"

	"sloth/api"
	"sloth/types"
)

// many hands on makers, till something fails.
func many(t *testing.T, seed int64, times int, do func(*maker)) {
	t.Helper()
	r := rand.New(rand.NewSource(seed))
	for range times {
		do(newMaker(r))
		if t.Failed() {
			return
		}
	}
}

func checkMet(t *testing.T, met map[api.Errno]int, least int, codes ...api.Errno) {
	t.Helper()
	t.Log(met)
	for _, code := range codes {
		if met[code] < least {
			t.Errorf("%v is met %d times", code, met[code])
		}
	}
}

// TestPlainUnify: P5.1: Unify answers as its second form does.
func TestPlainUnify(t *testing.T) {
	t.Parallel()
	met := map[api.Errno]int{}
	many(t, 1, 40000, func(k *maker) {
		k.bad = pick(k.Rand, 0, 0, 0, 0, 0, 30)
		l := k.pairs()
		got, at, code := types.Unify(l)
		want, wantAt, wantCode := plainUnify(l)
		met[code]++
		if code != wantCode || at != wantAt || !sameBounds(got, want) {
			t.Errorf("Unify(%s): %s, %d, %v\nwant %s, %d, %v", toldPairs(l), toldBounds(got), at, code, toldBounds(want), wantAt, wantCode)
		}
	})
	checkMet(t, met, 1000, api.OK, api.ErrTypesMismatch, api.ErrTypesOccurs, api.ErrTypesForm)
	checkMet(t, met, 300, api.ErrBig)
}

// TestPlainOthers: P5.2, P5.3, P5.4.
func TestPlainOthers(t *testing.T) {
	t.Parallel()
	applied, instances, canons := map[api.Errno]int{}, map[api.Errno]int{}, map[api.Errno]int{}
	are := map[bool]int{}
	many(t, 2, 20000, func(k *maker) {
		k.bad = pick(k.Rand, 0, 0, 0, 60)
		l, in := k.bounds(), k.typ(k.Intn(5))
		if k.Intn(10) == 0 {
			l = []api.Bound{{Name: "a", Type: row(1 + k.Intn(300))}, {Name: "b", Type: row(1 + k.Intn(300))}}
		}
		got, code := types.Apply(l, in)
		want, wantCode := plainApply(l, in)
		applied[code]++
		if code != wantCode || !same(got, want) {
			t.Errorf("Apply(%s; %s): %s, %v\nwant %s, %v", short(toldBounds(l)), told(in), short(told(got)), code, short(told(want)), wantCode)
		}
		canon, code := types.Canon(in)
		wantCanon, wantCode := plainCanon(in)
		canons[code]++
		if code != wantCode || !same(canon, wantCanon) {
			t.Errorf("Canon(%s): %s, %v\nwant %s, %v", told(in), told(canon), code, told(wantCanon), wantCode)
		}
		special := pick(k.Rand, got, in, k.typ(1), k.typ(2))
		found, is, code := types.Instance(in, special)
		wantFound, wantIs, wantCode := plainInstance(in, special)
		instances[code]++
		are[is]++
		if code != wantCode || is != wantIs || !sameBounds(found, wantFound) {
			t.Errorf("Instance(%s, %s): %s, %v, %v\nwant %s, %v, %v", told(in), told(special), toldBounds(found), is, code, toldBounds(wantFound), wantIs, wantCode)
		}
	})
	checkMet(t, applied, 100, api.OK, api.ErrTypesForm, api.ErrBig)
	checkMet(t, instances, 300, api.OK, api.ErrTypesForm)
	checkMet(t, canons, 300, api.OK, api.ErrTypesForm)
	if are[true] < 2000 || are[false] < 2000 {
		t.Error("instances:", are)
	}
}

// TestPlainRead: P5.5 and P5.9: texts of types with some bytes changed, and texts of pieces.
func TestPlainRead(t *testing.T) {
	t.Parallel()
	met := map[api.Errno]int{}
	check := func(text string) {
		got, code := types.Read(text)
		want, wantCode := plainRead(text)
		met[code]++
		if code != wantCode || !same(got, want) {
			t.Errorf("Read(%q): %s, %v\nwant %s, %v", text, told(got), code, told(want), wantCode)
		}
		if again, e := types.Print(got); code == api.OK && (e != api.OK || again != text) {
			t.Errorf("Print(Read(%q)): %q, %v", text, again, e)
		}
	}
	pieces := []string{"(", ")", " ", "->", " -> ", "a", "T", "M.", "Int", ".", "(T a)", "(a -> b)", "1", "\xff"}
	many(t, 3, 20000, func(k *maker) {
		b := []byte(told(k.typ(k.Intn(4))))
		for range k.Intn(3) {
			at := k.Intn(len(b))
			if k.Intn(2) == 0 {
				b[at] = pick(k.Rand, []byte("() ->aTz.1'_\x00\xff")...)
			} else {
				b = slices.Insert(b, at, pick(k.Rand, []byte("() ->aTz.1'_\x00\xff")...))
			}
		}
		check(string(b))
		text := ""
		for range k.Intn(7) {
			text += pick(k.Rand, pieces...)
		}
		check(text)
	})
	var each func(text string, left int)
	each = func(text string, left int) {
		if check(text); left > 0 && !t.Failed() {
			for _, p := range []string{"(", ")", " ", "->", "a", "T", "Int"} {
				each(text+p, left-1)
			}
		}
	}
	each("", 5)
	checkMet(t, met, 1000, api.OK, api.ErrTypesText)
}

func apply(t *testing.T, l []api.Bound, x api.Type) (api.Type, api.Errno) {
	t.Helper()
	got, code := types.Apply(l, x)
	if code != api.OK && code != api.ErrBig && code != api.ErrLong {
		t.Errorf("Apply(%s; %s): %v", toldBounds(l), told(x), code)
	}
	return got, code
}

// TestAgree: P5.6: what Unify tells makes the pairs the same, and nothing is left to be replaced.
func TestAgree(t *testing.T) {
	t.Parallel()
	good := 0
	many(t, 4, 20000, func(k *maker) {
		l := k.pairs()
		b, _, code := types.Unify(l)
		if code != api.OK {
			return
		}
		good++
		ts := []api.Type{k.typ(1), k.typ(2), k.typ(3)}
		for _, p := range l {
			one, e := apply(t, b, p.A)
			other, e2 := apply(t, b, p.B)
			if e != e2 || !same(one, other) {
				t.Errorf("Unify(%s): %s\nof %s it makes %s, %v; of %s %s, %v", toldPairs(l), toldBounds(b), told(p.A), told(one), e, told(p.B), told(other), e2)
			}
			ts = append(ts, p.A, p.B)
		}
		for _, x := range ts {
			if once, e := apply(t, b, x); e == api.OK {
				if twice, e := apply(t, b, once); e != api.OK || !same(once, twice) {
					t.Errorf("Unify(%s): %s\nof %s it makes %s, and of that %s, %v", toldPairs(l), toldBounds(b), told(x), told(once), told(twice), e)
				}
			}
		}
	})
	if good < 5000 {
		t.Error("too few agree:", good)
	}
}

func asBounds(c map[string]api.Type) []api.Bound {
	var l []api.Bound
	for x, value := range c {
		l = append(l, api.Bound{Name: x, Type: value})
	}
	return l
}

// TestMostGeneral: P5.6 and P5.7: where some Bounds make all pairs the same, Unify finds Bounds, and none are more general.
func TestMostGeneral(t *testing.T) {
	t.Parallel()
	good := 0
	many(t, 5, 20000, func(k *maker) {
		l, c := k.agreeing()
		b, at, code := types.Unify(l)
		if code == api.ErrBig {
			return
		}
		if code != api.OK {
			t.Errorf("Unify(%s): %d, %v\nwant what %s is an instance of", toldPairs(l), at, code, toldBounds(asBounds(c)))
			return
		}
		for _, p := range l {
			for _, x := range plainVariables(p.A, p.B) {
				most, e := apply(t, b, variable(x))
				made, e2 := apply(t, asBounds(c), most)
				want, e3 := apply(t, asBounds(c), variable(x))
				if e != api.OK || e2 != api.OK || e3 != api.OK {
					continue
				}
				good++
				if !same(made, want) {
					t.Errorf("Unify(%s): %s\nof %s it makes %s, of which %s makes %s, not %s", toldPairs(l), toldBounds(b), x, told(most), toldBounds(asBounds(c)), told(made), told(want))
				}
			}
		}
	})
	if good < 20000 {
		t.Error("too few:", good)
	}
}

// smallTypes are all ground types of some pieces, up to a depth.
func smallTypes(depth int) []api.Type {
	l := []api.Type{number, data("T")}
	if depth > 0 {
		for _, a := range smallTypes(depth - 1) {
			l = append(l, data("T", a))
			for _, b := range smallTypes(depth - 1) {
				l = append(l, fun(a, b))
			}
		}
	}
	return l
}

// TestNoBounds: P5.7: where Unify refuses, none of many Bounds make all pairs the same; the pairs ahead agree.
func TestNoBounds(t *testing.T) {
	t.Parallel()
	values := smallTypes(1)
	met := map[api.Errno]int{}
	many(t, 6, 3000, func(k *maker) {
		k.names = []string{"a", "b", "c"}
		var l []api.Pair
		for range 1 + k.Intn(3) {
			l = append(l, api.Pair{A: k.typ(k.Intn(3)), B: k.typ(k.Intn(2))})
		}
		_, at, code := types.Unify(l)
		met[code]++
		if code == api.OK {
			return
		}
		if _, _, ahead := types.Unify(l[:at]); ahead != api.OK && ahead != api.ErrBig {
			t.Errorf("Unify(%s): %d, %v; of those ahead %v", toldPairs(l), at, code, ahead)
		}
		for _, a := range values {
			for _, b := range values {
				for _, c := range values {
					if known := map[string]api.Type{"a": a, "b": b, "c": c}; makesSame(known, l) {
						t.Errorf("Unify(%s): %v; but %s makes them the same", toldPairs(l), code, toldBounds(asBounds(known)))
						return
					}
				}
			}
		}
	})
	checkMet(t, met, 300, api.OK, api.ErrTypesMismatch, api.ErrTypesOccurs)
}

func makesSame(known map[string]api.Type, l []api.Pair) bool {
	return !slices.ContainsFunc(l, func(p api.Pair) bool { return told(plainPut(known, p.A)) != told(plainPut(known, p.B)) })
}

// TestCanonInstance: P5.8.
func TestCanonInstance(t *testing.T) {
	t.Parallel()
	met := map[bool]int{}
	many(t, 7, 30000, func(k *maker) {
		k.names = []string{"a", "b", "c"}
		one, other := k.typ(2), k.typ(2)
		if k.Intn(2) == 0 {
			names := pick(k.Rand, "b c a", "c b a", "x y z", "a a b")
			put := map[string]api.Type{}
			for i, x := range strings.Fields(names) {
				put[k.names[i]] = variable(x)
			}
			other = plainPut(put, one)
		}
		a, _ := types.Canon(one)
		b, _ := types.Canon(other)
		_, down, _ := types.Instance(one, other)
		_, up, _ := types.Instance(other, one)
		met[same(a, b)]++
		if same(a, b) != (down && up) {
			t.Errorf("Canon(%s) is %s, Canon(%s) is %s; instances: %v, %v", told(one), told(a), told(other), told(b), down, up)
		}
		if again, code := types.Canon(a); code != api.OK || !same(again, a) {
			t.Errorf("Canon(%s): %s, %v", told(a), told(again), code)
		}
	})
	if met[true] < 3000 || met[false] < 3000 {
		t.Error(met)
	}
}

// TestThereAndBack: P5.9: Read of Print. (Print of Read: TestPlainRead.)
func TestThereAndBack(t *testing.T) {
	t.Parallel()
	many(t, 8, 20000, func(k *maker) {
		in := k.typ(k.Intn(6))
		text, code := types.Print(in)
		if code == api.ErrBig && plainNodes(in) > api.MaxType {
			return
		}
		if code != api.OK || text != told(in) {
			t.Errorf("Print(%s): %s, %v", told(in), text, code)
		}
		checkRead(t, text, in, api.OK)
	})
}

// soon: what it does takes no longer than a call whose time grows as the square.
func soon(t *testing.T, what string, do func()) {
	t.Helper()
	done := make(chan struct{})
	go func() {
		defer close(done)
		do()
	}()
	select {
	case <-done:
	case <-time.After(time.Minute):
		t.Fatal("too long:", what)
	}
}

// TestTime: P5.10: variables share what they stand for, and what is found to agree is not looked at again.
func TestTime(t *testing.T) {
	t.Parallel()
	const n = 1000
	v := func(name string, i int) api.Type { return numbered(name, i) }
	first := func(a, b string) api.Pair { return api.Pair{A: v(a, 1), B: v(b, 1)} }
	two := append(doubling("a", n), doubling("b", n)...)
	soon(t, "two that double", func() {
		checkRefused(t, append(two[:2*n:2*n], first("a", "b")), 2*n+1, api.ErrBig)
		checkRefused(t, append([]api.Pair{first("a", "b")}, two...), 2*n+1, api.ErrBig)
		checkRefused(t, append(backwards(two), first("b", "a")), 2*n+1, api.ErrBig)
	})
	end := api.Pair{A: data("T", v("a", n+1), v("b", n+1), v("a", 1)), B: data("T", number, data("T"), v("b", 1))}
	soon(t, "two that double, and differ at the end", func() {
		checkRefused(t, append(two[:2*n:2*n], end), 2*n, api.ErrTypesMismatch)
	})
	soon(t, "two that double, the one within the other", func() {
		l := append(two[:2*n:2*n], api.Pair{A: v("a", n+1), B: v("b", 1)}, api.Pair{A: v("b", n+1), B: data("List", v("a", 1))})
		checkRefused(t, l, 2*n+1, api.ErrTypesOccurs)
	})
	// what is a variable on the one side is none on the other, all the way down
	var l []api.Pair
	for i := 1; i <= n; i++ {
		x := data("Q", v("x", i+1))
		l = append(l, api.Pair{A: v("x", i), B: fun(x, x)}, api.Pair{A: v("y", i), B: data("Q", fun(v("y", i+1), v("y", i+1)))})
	}
	soon(t, "two that double by turns", func() {
		checkRefused(t, append(l[:2*n:2*n], api.Pair{A: v("x", 1), B: fun(v("y", 1), v("y", 1))}), 2*n+1, api.ErrBig)
		checkRefused(t, append(l[:2*n:2*n], api.Pair{A: fun(v("y", 1), v("y", 1)), B: v("x", 1)}, api.Pair{A: v("y", 3), B: number}), 2*n+1, api.ErrTypesMismatch)
	})
	soon(t, "a long chain", func() {
		var chain, other []api.Pair
		for i := range api.MaxCore/2 - 1 {
			chain = append(chain, api.Pair{A: v("a", i+1), B: data("List", v("a", i+2))})
			other = append(other, api.Pair{A: v("b", i+1), B: data("List", v("b", i+2))})
		}
		both := append(append(chain, backwards(other)...), first("a", "b"))
		checkRefused(t, both, len(both), api.ErrBig)
	})
}

// rooms notes the places of all room that lists have, and tells of one that two lists have.
type rooms struct {
	*testing.T
	places map[any]bool
}

func room[T any](r rooms, l []T) {
	for i := range cap(l) {
		at := &l[:cap(l)][i]
		if r.places[at] {
			r.Error("two lists share memory")
		}
		r.places[at] = true
	}
}

func (r rooms) types(l ...api.Type) {
	for _, t := range l {
		room(r, t.Args)
		r.types(t.Args...)
	}
}

func (r rooms) bounds(l []api.Bound) {
	room(r, l)
	for _, b := range l {
		r.types(b.Type)
	}
}

// roomy is the type with something in the spare room of its lists.
func roomy(t api.Type) api.Type {
	l := make([]api.Type, 0, len(t.Args)+1)
	for _, a := range t.Args {
		l = append(l, roomy(a))
	}
	t.Args = append(l, data("Spare"))[:len(l)]
	return t
}

// spared tells a type with what stands in the spare room of its lists.
func spared(t api.Type) string {
	s := t.Name + "["
	for _, a := range t.Args[:cap(t.Args)] {
		s += spared(a) + " "
	}
	return s + "]"
}

// TestMemory: W2 and W6: what is handed in stays, its spare room too; no two lists of what is handed in and of what is answered, twice, share any room; both answers are the same.
func TestMemory(t *testing.T) {
	t.Parallel()
	many(t, 9, 4000, func(k *maker) {
		k.bad = pick(k.Rand, 0, 0, 0, 60)
		var pairs []api.Pair
		var bounds []api.Bound
		for _, p := range k.pairs() {
			pairs = append(pairs, api.Pair{A: roomy(p.A), B: roomy(p.B)})
		}
		for _, b := range k.bounds() {
			bounds = append(bounds, api.Bound{Name: b.Name, Type: roomy(b.Type)})
		}
		one, other := roomy(k.typ(3)), roomy(k.typ(2))
		in := func() string {
			s := spared(one) + spared(other)
			for _, p := range pairs {
				s += " = " + spared(p.A) + spared(p.B)
			}
			for _, b := range bounds {
				s += "; " + b.Name + spared(b.Type)
			}
			return s
		}
		before := in()
		r := rooms{t, map[any]bool{}}
		r.bounds(bounds)
		r.types(one, other)
		room(r, pairs)
		for _, p := range pairs {
			r.types(p.A, p.B)
		}
		a, b := memoryAnswers(r, pairs, bounds, one, other), memoryAnswers(r, pairs, bounds, one, other)
		if fmt.Sprint(a) != fmt.Sprint(b) {
			t.Errorf("Of %s first\n%v, then\n%v", before, a, b)
		}
		if before != in() {
			t.Errorf("%s has become %s", before, in())
		}
	})
}

func memoryAnswers(r rooms, pairs []api.Pair, bounds []api.Bound, one, other api.Type) []any {
	unified, at, code := types.Unify(pairs)
	r.bounds(unified)
	all := []any{unified, at, code}
	for _, special := range []api.Type{one, other} {
		found, is, code := types.Instance(one, special)
		r.bounds(found)
		all = append(all, found, is, code)
	}
	applied, code := types.Apply(bounds, one)
	canon, code2 := types.Canon(one)
	text, code3 := types.Print(one)
	read, code4 := types.Read(text)
	r.types(applied, canon, read)
	return append(all, applied, code, canon, code2, text, code3, read, code4)
}
