package nest_test

import (
	"testing"

	"sloth/api"
	"sloth/nest"
)

// Of each thing its depth by W7: it is above all levels below that, and above no other.

func pat(depth int) api.Pat {
	if depth == 1 {
		return api.Pat{Kind: api.PatWild}
	}
	return api.Pat{Kind: api.PatCon, Name: "Pair", Args: []api.Pat{pat(1), pat(depth - 1)}}
}

func term(depth int) api.Term {
	if depth == 1 {
		return api.Term{Kind: api.TermInt}
	}
	return api.Term{Kind: api.TermApp, Args: []api.Term{term(depth - 1), term(1)}}
}

func check(t *testing.T, what string, depth int, above func(levels int) bool) {
	t.Helper()
	for levels := -1; levels < depth+3; levels++ {
		if above(levels) != (depth > levels) {
			t.Errorf("%s, %d deep: above %d levels: %v", what, depth, levels, above(levels))
		}
	}
}

func TestPats(t *testing.T) {
	for depth := 1; depth < 5; depth++ {
		check(t, "a pattern", depth, func(levels int) bool { return nest.PatAbove(pat(depth), levels) })
	}
}

func TestClauses(t *testing.T) {
	for _, x := range []struct {
		pats  []int
		body  int
		depth int
	}{{nil, 1, 1}, {nil, 3, 3}, {[]int{1, 4, 2}, 3, 4}, {[]int{1, 2}, 3, 3}} {
		c := api.Clause{Name: "f", Body: term(x.body)}
		for _, depth := range x.pats {
			c.Pats = append(c.Pats, pat(depth))
		}
		check(t, "a clause", x.depth, func(levels int) bool { return nest.ClauseAbove(c, levels) })
	}
}

func TestTerms(t *testing.T) {
	for _, x := range []struct {
		what  string
		term  api.Term
		depth int
	}{
		{"a leaf", term(1), 1},
		{"a call", term(4), 4},
		{"a lambda with a deep body", api.Term{Kind: api.TermLam, Pats: []api.Pat{pat(1)}, Args: []api.Term{term(3)}}, 4},
		{"a lambda with a deep pattern", api.Term{Kind: api.TermLam, Pats: []api.Pat{pat(1), pat(4)}, Args: []api.Term{term(3)}}, 5},
		{"a let with a deep clause", api.Term{Kind: api.TermLet, Clauses: []api.Clause{{Body: term(1)}, {Body: term(5)}}, Args: []api.Term{term(2)}}, 6},
		{"a let with a deep pattern", api.Term{Kind: api.TermLet, Clauses: []api.Clause{{Pats: []api.Pat{pat(3)}, Body: term(1)}}, Args: []api.Term{term(2)}}, 4},
		{"a let with a deep body", api.Term{Kind: api.TermLet, Clauses: []api.Clause{{Body: term(1)}}, Args: []api.Term{term(2)}}, 3},
		{"a case with a deep alternative", api.Term{Kind: api.TermCase, Args: []api.Term{term(2)}, Alts: []api.Branch{{Pat: pat(2), Body: term(3)}}}, 4},
		{"a case with a deep pattern", api.Term{Kind: api.TermCase, Args: []api.Term{term(2)}, Alts: []api.Branch{{Pat: pat(4), Body: term(3)}}}, 5},
		{"a case of something deep", api.Term{Kind: api.TermCase, Args: []api.Term{term(5)}, Alts: []api.Branch{{Pat: pat(4), Body: term(3)}}}, 6},
	} {
		check(t, x.what, x.depth, func(levels int) bool { return nest.TermAbove(x.term, levels) })
	}
}

func expr(depth int) api.Expr {
	if depth == 1 {
		return api.Expr{Kind: api.ExprInt}
	}
	return api.Expr{Kind: api.ExprSeq, Args: []api.Expr{expr(1), expr(depth - 1)}}
}

func TestExprs(t *testing.T) {
	for _, x := range []struct {
		what  string
		expr  api.Expr
		depth int
	}{
		{"a leaf", expr(1), 1},
		{"a seq", expr(4), 4},
		{"types are not counted", api.Expr{Kind: api.ExprCon, Types: []api.Type{{Args: []api.Type{{}}}}}, 1},
		{"a lambda", api.Expr{Kind: api.ExprLam, Binds: []api.Bind{{Name: "x"}}, Args: []api.Expr{expr(1)}}, 2},
		{"a let with a deep value", api.Expr{Kind: api.ExprLet, Binds: []api.Bind{{Value: expr(1)}, {Value: expr(5)}}, Args: []api.Expr{expr(2)}}, 6},
		{"a let with a deep body", api.Expr{Kind: api.ExprLet, Binds: []api.Bind{{Value: expr(1)}}, Args: []api.Expr{expr(2)}}, 3},
		{"a case with a deep alternative", api.Expr{Kind: api.ExprCase, Args: []api.Expr{expr(2)}, Alts: []api.Alt{{Body: expr(1)}, {Body: expr(3)}, {Body: expr(1)}}}, 4},
		{"a case of something deep", api.Expr{Kind: api.ExprCase, Args: []api.Expr{expr(5)}, Alts: []api.Alt{{Body: expr(3)}}}, 6},
		{"what has no meaning", api.Expr{Kind: api.ExprInt, Alts: []api.Alt{{Body: expr(3)}}}, 4},
	} {
		check(t, x.what, x.depth, func(levels int) bool { return nest.ExprAbove(&x.expr, levels) })
	}
}
