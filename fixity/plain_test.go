package fixity_test

import (
	"slices"

	"sloth/api"
	"sloth/scope"
)

// plain is a second form of Resolve, of texts that Bind takes: it goes word by word by the chapter, looks for each root anew, notes all faults of a clause ahead of making new trees, and measures these whole.
type plain struct {
	fixes  []api.Fixity
	faults []api.Errno
}

func plainResolve(texts []string) ([]api.Module, *api.Fault) {
	modules, fixes, err := scope.Bind(texts)
	if err != nil {
		panic(err)
	}
	for _, m := range modules {
		for i, c := range m.Clauses {
			p := &plain{fixes: fixes}
			p.look(c.Body)
			if len(p.faults) == 0 {
				m.Clauses[i].Body = p.resolved(c.Body)
				p.note(nestOf(m.Clauses[i].Body) > api.MaxNest, api.ErrNest)
			}
			if len(p.faults) > 0 {
				return nil, &api.Fault{Code: p.faults[0], Text: m.Text, At: -1, Name: c.Name}
			}
		}
	}
	return modules, nil
}

func (p *plain) note(wrong bool, code api.Errno) bool {
	if wrong {
		p.faults = append(p.faults, code)
	}
	return wrong
}

func (p *plain) fixity(op api.Term) (assoc, level int) {
	for _, f := range p.fixes {
		if f.Op == op.Name {
			return f.Assoc, f.Level
		}
	}
	switch op.Name {
	case "*", "/", "%":
		return api.AssocLeft, 7
	case "+", "-":
		return api.AssocLeft, 6
	case "Cons":
		return api.AssocRight, 5
	case "==", "/=", "<", "<=", ">", ">=":
		return api.AssocNone, 4
	}
	return api.AssocLeft, 9
}

// rowOf: that of a TermFlat, TermLeft or TermRight; nil of all else.
func rowOf(t api.Term) []api.Term {
	z := []api.Term{{Kind: api.TermVar, Name: "z"}}
	switch t.Kind {
	case api.TermFlat:
		return t.Args
	case api.TermLeft:
		return slices.Concat(t.Args, z)
	case api.TermRight:
		return slices.Concat(z, t.Args)
	}
	return nil
}

// root of a row with operators; -1, if there is none.
func (p *plain) root(row []api.Term) int {
	least := 10
	for i := 1; i < len(row); i += 2 {
		_, level := p.fixity(row[i])
		least = min(least, level)
	}
	var weakest []int
	var sides [3]int
	for i := 1; i < len(row); i += 2 {
		if assoc, level := p.fixity(row[i]); level == least {
			weakest = append(weakest, i)
			sides[assoc]++
		}
	}
	switch len(weakest) {
	case 1, sides[api.AssocRight]:
		return weakest[0]
	case sides[api.AssocLeft]:
		return weakest[len(weakest)-1]
	}
	return -1
}

func (p *plain) hasTree(row []api.Term) bool {
	if len(row) == 1 {
		return true
	}
	root := p.root(row)
	return root > 0 && p.hasTree(row[:root]) && p.hasTree(row[root+1:])
}

// look notes the faults of a term: P4.2.
func (p *plain) look(t api.Term) {
	if row := rowOf(t); row != nil {
		if !p.note(!p.hasTree(row), api.ErrFixMix) {
			root := p.root(row)
			p.note(t.Kind == api.TermLeft && root != len(row)-2 || t.Kind == api.TermRight && root != 1, api.ErrFixSection)
		}
	}
	if t.Kind == api.TermLet {
		for _, c := range t.Clauses {
			p.look(c.Body)
		}
	}
	for _, a := range t.Args {
		p.look(a)
	}
	if t.Kind == api.TermCase {
		for _, b := range t.Alts {
			p.look(b.Body)
		}
	}
}

func call(f, x api.Term) api.Term { return api.Term{Kind: api.TermApp, Args: []api.Term{f, x}} }

func (p *plain) tree(row []api.Term) api.Term {
	if len(row) == 1 {
		return p.resolved(row[0])
	}
	root := p.root(row)
	return call(call(row[root], p.tree(row[:root])), p.tree(row[root+1:]))
}

// resolved makes a new term of one that has no fault.
func (p *plain) resolved(t api.Term) api.Term {
	switch row := rowOf(t); t.Kind {
	case api.TermFlat:
		return p.tree(row)
	case api.TermLeft:
		last := len(t.Args) - 1
		return call(t.Args[last], p.tree(t.Args[:last]))
	case api.TermRight:
		return api.Term{Kind: api.TermRight, Args: []api.Term{t.Args[0], p.tree(t.Args[1:])}}
	}
	t.Args, t.Clauses, t.Alts = slices.Clone(t.Args), slices.Clone(t.Clauses), slices.Clone(t.Alts)
	for i, a := range t.Args {
		t.Args[i] = p.resolved(a)
	}
	for i, c := range t.Clauses {
		t.Clauses[i].Body = p.resolved(c.Body)
	}
	for i, b := range t.Alts {
		t.Alts[i].Body = p.resolved(b.Body)
	}
	return t
}

// nestOf: how deep a term is (W7).
func nestOf(t api.Term) int {
	deepest := 0
	add := func(depth int) { deepest = max(deepest, depth) }
	for _, a := range t.Args {
		add(nestOf(a))
	}
	for _, q := range t.Pats {
		add(nestOfPat(q))
	}
	for _, c := range t.Clauses {
		add(nestOf(c.Body))
		for _, q := range c.Pats {
			add(nestOfPat(q))
		}
	}
	for _, b := range t.Alts {
		add(nestOfPat(b.Pat))
		add(nestOf(b.Body))
	}
	return deepest + 1
}

func nestOfPat(p api.Pat) int {
	deepest := 0
	for _, a := range p.Args {
		deepest = max(deepest, nestOfPat(a))
	}
	return deepest + 1
}
