package typing

import "sloth/api"

// Definition is a name with its clauses, and its signature, if it has one.
type Definition struct {
	Number  int // among those of all modules
	Name    string
	Text    int
	Sig     *api.Type
	Clauses []api.Clause
}

// Definitions tells the definitions of modules, in their order.
func Definitions(modules []api.Module) []Definition {
	var l []Definition
	for _, m := range modules {
		sigs := make(map[string]*api.Type, len(m.Sigs))
		for i, s := range m.Sigs {
			sigs[s.Name] = &m.Sigs[i].Type
		}
		for _, c := range m.Clauses {
			if len(l) == 0 || l[len(l)-1].Name != c.Name {
				l = append(l, Definition{Number: len(l), Name: c.Name, Text: m.Text, Sig: sigs[c.Name]})
			}
			d := &l[len(l)-1]
			d.Clauses = append(d.Clauses, c)
		}
	}
	return l
}

// Fault is one that lies in a definition.
func (d Definition) Fault(code api.Errno) *api.Fault {
	return &api.Fault{Code: code, Text: d.Text, At: -1, Name: d.Name}
}

// needsOf tells of each definition the numbers of those whose names stand in its bodies, each as often as it stands.
func needsOf(defs []Definition) [][]int {
	numbers := make(map[string]int, len(defs))
	for i, d := range defs {
		numbers[d.Name] = i
	}
	needs := make([][]int, len(defs))
	for i, d := range defs {
		for _, c := range d.Clauses {
			eachName(c.Body, func(name string) {
				if n, ok := numbers[name]; ok {
					needs[i] = append(needs[i], n)
				}
			})
		}
	}
	return needs
}

// eachName hands on the names of values that stand in an expression.
func eachName(t api.Term, do func(name string)) {
	if t.Kind == api.TermVar {
		do(t.Name)
	}
	for _, c := range t.Clauses {
		eachName(c.Body, do)
	}
	for _, a := range t.Args {
		eachName(a, do)
	}
	for _, a := range t.Alts {
		eachName(a.Body, do)
	}
}
