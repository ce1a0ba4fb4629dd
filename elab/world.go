package elab

import (
	"slices"

	"sloth/api"
	"sloth/typing"
)

// world is what all definitions share.
type world struct {
	typing.Known
	params   map[string][]string // of definitions
	families []api.Family
	cons     map[string]constructor
	nodes    int // of the program, as far as they were counted
}

// constructor tells the number of its family, and how many fields it has.
type constructor struct{ family, fields int }

// learn learns what modules say whose definitions have these types.
func learn(modules []api.Module, sigs []api.Sig) *world {
	w := &world{Known: typing.BuiltIn(), params: map[string][]string{}, cons: map[string]constructor{}}
	for _, cons := range [][]string{{"False", "True"}, {"Unit"}, {"Nil", "Cons"}, {"Pair"}, {"Triple"}} {
		w.meet(cons)
	}
	for _, m := range modules {
		w.Learn(m) // infer has seen that no type is too great
		for _, d := range m.Datas {
			w.meet(namesOf(d.Cons))
		}
	}
	for _, s := range sigs {
		w.Values[s.Name] = s.Type
		w.params[s.Name] = variablesOf(s.Type)
	}
	return w
}

func namesOf(l []api.Con) []string {
	names := make([]string, len(l))
	for i, c := range l {
		names[i] = c.Name
	}
	return names
}

// meet learns the family of some constructors, whose types are known.
func (w *world) meet(cons []string) {
	f := api.Family{Cons: cons}
	for _, name := range cons {
		fields := 0
		for t := w.Cons[name]; t.Kind == api.TyFun; t = t.Args[1] {
			fields++
		}
		f.Fields = append(f.Fields, fields)
		w.cons[name] = constructor{family: len(w.families), fields: fields}
	}
	w.families = append(w.families, f)
}

// familiesOf tells the families that rows name, in their order. With all others beside them the tree would be the same; but there may be so many that they cannot be handed on with each few rows.
func (w *world) familiesOf(rows [][]api.Pat) []api.Family {
	var numbers []int
	for _, pats := range rows {
		numbers = w.numbersIn(pats, numbers)
	}
	slices.Sort(numbers)
	var l []api.Family
	for _, n := range slices.Compact(numbers) {
		l = append(l, w.families[n])
	}
	return l
}

// numbersIn puts the numbers of the families that patterns name behind others.
func (w *world) numbersIn(pats []api.Pat, numbers []int) []int {
	for _, p := range pats {
		if p.Kind == api.PatCon {
			numbers = w.numbersIn(p.Args, append(numbers, w.cons[p.Name].family))
		}
	}
	return numbers
}

// isFull tells whether the program is too great already. Then no more of it is made; only its rows are still looked at, since what is wrong with them is told first.
func (w *world) isFull() bool { return w.nodes > api.MaxCore }

// variablesOf tells a type's variables in the order in which they first stand.
func variablesOf(t api.Type) []string {
	var l []string
	var walk func(api.Type)
	walk = func(t api.Type) {
		if t.Kind == api.TyVar && !slices.Contains(l, t.Name) {
			l = append(l, t.Name)
		}
		for _, a := range t.Args {
			walk(a)
		}
	}
	walk(t)
	return l
}
