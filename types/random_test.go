package types_test

import (
	"math/rand"
	"strings"

	"sloth/api"
)

// maker makes types at random.
type maker struct {
	*rand.Rand
	names []string // of variables
	bad   int      // one of so many nodes may not be; 0: all may
}

func pick[T any](r *rand.Rand, l ...T) T { return l[r.Intn(len(l))] }

func newMaker(r *rand.Rand) *maker {
	return &maker{Rand: r, names: strings.Fields(pick(r, "a b", "c b a", "a1 a10 a' a_ aA", "e d c b a f", "x a2 b z y"))}
}

func (k *maker) typ(depth int) api.Type {
	if k.bad > 0 && k.Intn(k.bad) == 0 {
		return k.badType(depth)
	}
	if depth == 0 || k.Intn(4) == 0 {
		return pick(k.Rand, number, data("T"), k.variable(), k.variable(), k.variable())
	}
	depth--
	switch k.Intn(5) {
	case 0:
		return data("T", k.typ(depth))
	case 1:
		return data("M.T", k.typ(depth), k.typ(depth))
	case 2:
		return data(pick(k.Rand, "P", "M.P"), k.typ(depth), k.typ(depth), k.typ(depth))
	}
	return fun(k.typ(depth), k.typ(depth))
}

func (k *maker) variable() api.Type { return variable(pick(k.Rand, k.names...)) }

func (k *maker) badType(depth int) api.Type {
	t := api.Type{Kind: k.Intn(7) - 1, Name: pick(k.Rand, "", "a", "T", "M.T", "Int", "a.b", "M.T.U", "\x80", name("T", api.MaxName+1))}
	for range k.Intn(8) {
		t.Args = append(t.Args, k.typ(max(depth-2, 0)))
	}
	return t
}

// ground is a type in which no variable stands.
func (k *maker) ground(depth int) api.Type {
	return plainPut(k.bounded(func() api.Type { return pick(k.Rand, number, data("T"), data("U")) }), k.typ(depth))
}

// bounded gives a value to each name.
func (k *maker) bounded(value func() api.Type) map[string]api.Type {
	c := map[string]api.Type{}
	for _, x := range k.names {
		c[x] = value()
	}
	return c
}

// wider puts variables where what c says of them stands: so c makes the type of it again.
func (k *maker) wider(c map[string]api.Type, t api.Type) api.Type {
	for _, i := range k.Perm(len(k.names)) {
		if x := k.names[i]; k.Intn(3) > 0 && same(c[x], t) {
			return variable(x)
		}
	}
	out := api.Type{Kind: t.Kind, Name: t.Name}
	for _, a := range t.Args {
		out.Args = append(out.Args, k.wider(c, a))
	}
	return out
}

// agreeing makes pairs that agree, and what makes them agree; its types may have variables too, of whatever names.
func (k *maker) agreeing() ([]api.Pair, map[string]api.Type) {
	base := k.ground(2)
	c := k.bounded(func() api.Type {
		switch k.Intn(4) {
		case 0:
			return pick(k.Rand, append(base.Args, number)...)
		case 1:
			return variable(pick(k.Rand, "q", "r", "a"))
		}
		return k.ground(k.Intn(3))
	})
	// some stand for what others stand in
	for _, x := range k.names {
		if k.Intn(2) == 0 {
			c[x] = fun(c[k.names[0]], c[k.names[k.Intn(len(k.names))]])
		}
	}
	var l []api.Pair
	for range 1 + k.Intn(5) {
		t := plainPut(c, k.typ(3))
		if !k.fits(c, t) {
			continue
		}
		l = append(l, api.Pair{A: k.wider(c, t), B: k.wider(c, t)})
	}
	return l, c
}

// fits: a variable that c leaves in a type must not be one of which it says something else.
func (k *maker) fits(c map[string]api.Type, t api.Type) bool {
	return same(plainPut(c, t), t)
}

// growing makes pairs in which types grow by two, or more.
func (k *maker) growing() []api.Pair {
	var l []api.Pair
	n := 2 + k.Intn(10)
	for i := range n {
		next := numbered("g", i+1)
		l = append(l, api.Pair{A: numbered("g", i), B: pick(k.Rand, data("M.T", next, next), fun(next, next), data("T", next), data("P", next, next, k.typ(1)), fun(next, numbered("g", i+1+k.Intn(n))))})
	}
	k.Shuffle(len(l), func(i, j int) { l[i], l[j] = l[j], l[i] })
	return l
}

// pairs makes pairs of many kinds: some agree, some do not.
func (k *maker) pairs() []api.Pair {
	var l []api.Pair
	switch k.Intn(5) {
	case 0:
		l = k.growing()
	case 1, 2:
		l, _ = k.agreeing()
	}
	for range k.Intn(4) {
		p := api.Pair{A: k.typ(k.Intn(3)), B: k.typ(k.Intn(3))}
		if k.Intn(2) == 0 {
			p.A = k.variable()
		}
		l = append(l, p)
	}
	return l
}

func (k *maker) bounds() []api.Bound {
	var l []api.Bound
	for _, i := range k.Perm(len(k.names)) {
		if k.Intn(3) > 0 {
			l = append(l, api.Bound{Name: k.names[i], Type: k.typ(k.Intn(3))})
		}
	}
	if len(l) > 1 && k.bad > 0 && k.Intn(10) == 0 {
		l[len(l)-1].Name = pick(k.Rand, l[0].Name, "A", "", "\x80")
	}
	return l
}
