package simplify

import (
	"iter"

	"sloth/api"
	"sloth/ring"
)

// body is a definition's Body, as it was when the round began.
type body struct {
	expr    *api.Expr
	lambdas int // its own
	isSmall bool
	copies  *copying // when it was asked for
}

func bodiesOf(defs []api.Def) map[string]*body {
	numbers := make(map[string]int, len(defs))
	for i := range defs {
		numbers[defs[i].Name] = i
	}
	loops := loopsOf(defs, numbers)
	bodies := make(map[string]*body, len(defs))
	for i := range defs {
		b := &body{expr: &defs[i].Body}
		behind := b.expr
		for behind.Kind == api.ExprLam {
			behind = &behind.Args[0]
			b.lambdas++
		}
		b.isSmall = b.lambdas > 0 && !loops[i] && isShort(behind)
		bodies[defs[i].Name] = b
	}
	return bodies
}

// loopsOf tells of each definition whether it needs itself.
func loopsOf(defs []api.Def, numbers map[string]int) []bool {
	needs := make([][]int, len(defs))
	loops := make([]bool, len(defs))
	for i := range defs {
		for e := range within(&defs[i].Body) {
			if e.Kind == api.ExprGlobal {
				needs[i] = append(needs[i], numbers[e.Name])
				loops[i] = loops[i] || e.Name == defs[i].Name
			}
		}
	}
	for _, members := range ring.Of(needs) {
		for _, i := range members {
			loops[i] = loops[i] || len(members) > 1
		}
	}
	return loops
}

// isShort tells whether an expression has, with all within it, no more than MaxInline.
func isShort(e *api.Expr) bool {
	count := 0
	for range within(e) {
		count++
		if count > api.MaxInline {
			return false
		}
	}
	return true
}

// within goes through an expression and all expressions in it. (A lambda's Value is none.)
func within(e *api.Expr) iter.Seq[*api.Expr] {
	return func(yield func(*api.Expr) bool) {
		left := []*api.Expr{e}
		for len(left) > 0 {
			last := len(left) - 1
			e := left[last]
			left = left[:last]
			if !yield(e) {
				return
			}
			left = appendParts(left, e)
		}
	}
}

func appendParts(l []*api.Expr, e *api.Expr) []*api.Expr {
	for i := range e.Args {
		l = append(l, &e.Args[i])
	}
	for i := range e.Binds {
		if e.Kind != api.ExprLam {
			l = append(l, &e.Binds[i].Value)
		}
	}
	for i := range e.Alts {
		l = append(l, &e.Alts[i].Body)
	}
	return l
}
