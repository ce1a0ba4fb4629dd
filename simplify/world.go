package simplify

import (
	"strconv"

	"sloth/api"
	"sloth/builtin"
	"sloth/swap"
)

// world is what stays from round to round.
type world struct {
	cons  map[string]con
	defs  map[string]general
	names *namer
}

// general is a type with parameters: the place of each among them.
type general struct {
	params map[string]int
	is     api.Type
}

// con is a constructor: as a function of its fields, and field by field.
type con struct {
	general
	fields []api.Type
}

func learn(p api.Program) *world {
	w := &world{cons: map[string]con{}, defs: map[string]general{}, names: &namer{taken: map[string]struct{}{}}}
	for _, d := range append(builtin.Datas(), p.Datas...) {
		w.learnData(d)
	}
	for i := range p.Defs {
		d := &p.Defs[i]
		w.defs[d.Name] = general{swap.Places(d.Params), d.Type}
		w.names.take(d.Name)
		for e := range within(&d.Body) {
			w.names.takeLocals(e)
		}
	}
	return w
}

func (w *world) learnData(d api.Data) {
	params := swap.Places(d.Params)
	made := api.Type{Kind: api.TyData, Name: d.Name}
	for _, name := range d.Params {
		made.Args = append(made.Args, api.Type{Kind: api.TyVar, Name: name})
	}
	for _, c := range d.Cons {
		is := made
		for i := len(c.Fields) - 1; i >= 0; i-- {
			is = function(c.Fields[i], is)
		}
		w.cons[c.Name] = con{general{params, is}, c.Fields}
		w.names.take(c.Name)
	}
}

// namer calls locals anew, as nothing else in the program is called.
type namer struct {
	taken map[string]struct{}
	last  int
}

func (n *namer) take(name string) { n.taken[name] = struct{}{} }

func (n *namer) takeLocals(e *api.Expr) {
	for i := range e.Binds {
		n.take(e.Binds[i].Name)
	}
	for i := range e.Alts {
		for _, name := range e.Alts[i].Vars {
			n.take(name)
		}
	}
}

func (n *namer) fresh() string {
	for {
		n.last++
		name := "v" + strconv.Itoa(n.last)
		if _, ok := n.taken[name]; !ok {
			return name
		}
	}
}
