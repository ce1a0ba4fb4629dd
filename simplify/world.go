package simplify

import (
	"strconv"

	"sloth/api"
	"sloth/swap"
	"sloth/typed"
	"sloth/walk"
)

// world is what stays from round to round.
type world struct {
	cons  map[string]typed.Con
	defs  map[string]typed.General
	names *namer
}

func learn(p api.Program) *world {
	w := &world{cons: typed.Cons(p.Datas), defs: map[string]typed.General{}, names: &namer{taken: map[string]struct{}{}}}
	for name := range w.cons {
		w.names.take(name)
	}
	for i := range p.Defs {
		d := &p.Defs[i]
		w.defs[d.Name] = typed.General{Params: swap.Places(d.Params), Is: d.Type}
		w.names.take(d.Name)
		for name := range walk.Names(&d.Body) {
			w.names.take(name)
		}
	}
	return w
}

// namer calls locals anew, as nothing else in the program is called.
type namer struct {
	taken map[string]struct{}
	last  int
}

func (n *namer) take(name string) { n.taken[name] = struct{}{} }

func (n *namer) fresh() string {
	for {
		n.last++
		name := "v" + strconv.Itoa(n.last)
		if _, ok := n.taken[name]; !ok {
			return name
		}
	}
}
