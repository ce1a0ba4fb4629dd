package fixity

import (
	"slices"

	"sloth/api"
)

// resolve resolves a term from the outside, and tells the first fault that it meets. Clauses are only in a let, ahead of its body, and alternatives only in a case, behind what is looked at: so one order is right for all kinds.
func (known fixities) resolve(t *api.Term) api.Errno {
	switch t.Kind {
	case api.TermFlat, api.TermLeft, api.TermRight:
		return known.resolveRow(t)
	}
	for i := range t.Clauses {
		if code := known.resolve(&t.Clauses[i].Body); code != api.OK {
			return code
		}
	}
	if code := known.resolveAll(t.Args); code != api.OK {
		return code
	}
	for i := range t.Alts {
		if code := known.resolve(&t.Alts[i].Body); code != api.OK {
			return code
		}
	}
	return api.OK
}

func (known fixities) resolveAll(l []api.Term) api.Errno {
	for i := range l {
		if code := known.resolve(&l[i]); code != api.OK {
			return code
		}
	}
	return api.OK
}

// resolveRow resolves a row or section. Its operands' turn comes when it is known to hold together.
func (known fixities) resolveRow(t *api.Term) api.Errno {
	row := whole(t)
	order, ok := known.plan(row)
	if !ok {
		return api.ErrFixMix
	}
	if !holdsSection(t.Kind, order[len(order)-1], len(row)) {
		return api.ErrFixSection
	}
	if code := known.resolveAll(row); code != api.OK {
		return code
	}
	*t = withoutGap(t.Kind, grow(row, order))
	return api.OK
}

// whole tells the row of a term; in a section's the operand that it lacks is an empty term.
func whole(t *api.Term) []api.Term {
	var gap api.Term
	switch t.Kind {
	case api.TermLeft:
		return slices.Concat(t.Args, []api.Term{gap})
	case api.TermRight:
		return slices.Concat([]api.Term{gap}, t.Args)
	}
	return t.Args
}

// holdsSection tells whether the root of a row of so many places stands beside the operand that a section lacks.
func holdsSection(kind, root, places int) bool {
	switch kind {
	case api.TermLeft:
		return root == places-2
	case api.TermRight:
		return root == 1
	}
	return true
}

// withoutGap makes a section of its whole row's tree.
func withoutGap(kind int, tree api.Term) api.Term {
	switch kind {
	case api.TermLeft:
		return tree.Args[0]
	case api.TermRight:
		root, behind := tree.Args[0].Args[0], tree.Args[1]
		return api.Term{Kind: api.TermRight, Args: []api.Term{root, behind}}
	}
	return tree
}
