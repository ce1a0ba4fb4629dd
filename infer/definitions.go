package infer

import (
	"sloth/api"
	"sloth/types"
)

// definition is a name with its clauses, and its signature, if it has one.
type definition struct {
	name    string
	text    int
	sig     *api.Type
	clauses []api.Clause
}

func definitionsOf(modules []api.Module) []definition {
	var l []definition
	for _, m := range modules {
		sigs := make(map[string]*api.Type, len(m.Sigs))
		for i, s := range m.Sigs {
			sigs[s.Name] = &m.Sigs[i].Type
		}
		for _, c := range m.Clauses {
			if len(l) == 0 || l[len(l)-1].name != c.Name {
				l = append(l, definition{name: c.Name, text: m.Text, sig: sigs[c.Name]})
			}
			d := &l[len(l)-1]
			d.clauses = append(d.clauses, c)
		}
	}
	return l
}

func (d definition) fault(code api.Errno) *api.Fault {
	return &api.Fault{Code: code, Text: d.text, At: -1, Name: d.name}
}

// keepsSig tells whether the type that came out is the signature's. It is an instance of that, as the signature's constraint says; so they are one, if that is an instance of it too.
func (d definition) keepsSig(t api.Type) bool {
	if d.sig == nil {
		return true
	}
	_, is, _ := types.Instance(t, *d.sig)
	return is
}

// needsOf tells of each definition the numbers of those whose names stand in its bodies, each as often as it stands.
func needsOf(defs []definition) [][]int {
	numbers := make(map[string]int, len(defs))
	for i, d := range defs {
		numbers[d.name] = i
	}
	needs := make([][]int, len(defs))
	for i, d := range defs {
		for _, c := range d.clauses {
			eachName(c.Body, func(name string) {
				if n, ok := numbers[name]; ok {
					needs[i] = append(needs[i], n)
				}
			})
		}
	}
	return needs
}

// eachName hands on the names of values that stand in an expression.
func eachName(t api.Term, do func(name string)) {
	if t.Kind == api.TermVar {
		do(t.Name)
	}
	for _, c := range t.Clauses {
		eachName(c.Body, do)
	}
	for _, a := range t.Args {
		eachName(a, do)
	}
	for _, a := range t.Alts {
		eachName(a.Body, do)
	}
}
