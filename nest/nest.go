// Package nest: how deep the trees of sources and of programs are (DOC.md, W7).
package nest

import (
	"slices"

	"sloth/api"
)

// The calls tell whether something is deeper than so many levels. They stop at that depth, so that they never go far down.

// PatAbove looks at a pattern.
func PatAbove(p api.Pat, levels int) bool {
	return levels <= 0 || patsAbove(p.Args, levels-1)
}

// ClauseAbove looks at each pattern and at the body of a clause.
func ClauseAbove(c api.Clause, levels int) bool {
	return patsAbove(c.Pats, levels) || TermAbove(c.Body, levels)
}

// TermAbove looks at an expression.
func TermAbove(t api.Term, levels int) bool {
	if levels <= 0 {
		return true
	}
	levels--
	return slices.ContainsFunc(t.Args, func(a api.Term) bool { return TermAbove(a, levels) }) ||
		patsAbove(t.Pats, levels) ||
		slices.ContainsFunc(t.Clauses, func(c api.Clause) bool { return ClauseAbove(c, levels) }) ||
		slices.ContainsFunc(t.Alts, func(b api.Branch) bool { return branchAbove(b, levels) })
}

func patsAbove(l []api.Pat, levels int) bool {
	return slices.ContainsFunc(l, func(p api.Pat) bool { return PatAbove(p, levels) })
}

func branchAbove(b api.Branch, levels int) bool {
	return PatAbove(b.Pat, levels) || TermAbove(b.Body, levels)
}

// ExprAbove looks at an expression of a program.
func ExprAbove(e *api.Expr, levels int) bool {
	if levels <= 0 {
		return true
	}
	levels--
	for i := range e.Args {
		if ExprAbove(&e.Args[i], levels) {
			return true
		}
	}
	for i := range e.Binds {
		if ExprAbove(&e.Binds[i].Value, levels) {
			return true
		}
	}
	for i := range e.Alts {
		if ExprAbove(&e.Alts[i].Body, levels) {
			return true
		}
	}
	return false
}
