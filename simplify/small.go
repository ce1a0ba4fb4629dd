package simplify

import (
	"sloth/api"
	"sloth/ring"
	"sloth/walk"
)

// body is a definition's Body, as it was when the round began.
type body struct {
	expr    *api.Expr
	lambdas int // its own
	isSmall bool
	copies  *copying // when it was asked for
}

func bodiesOf(defs []api.Def) map[string]*body {
	numbers := make(map[string]int, len(defs))
	for i := range defs {
		numbers[defs[i].Name] = i
	}
	loops := loopsOf(defs, numbers)
	bodies := make(map[string]*body, len(defs))
	for i := range defs {
		behind, lambdas := walk.Body(&defs[i].Body)
		b := &body{expr: &defs[i].Body, lambdas: lambdas}
		b.isSmall = b.lambdas > 0 && !loops[i] && isShort(behind)
		bodies[defs[i].Name] = b
	}
	return bodies
}

// loopsOf tells of each definition whether it needs itself.
func loopsOf(defs []api.Def, numbers map[string]int) []bool {
	needs := make([][]int, len(defs))
	loops := make([]bool, len(defs))
	for i := range defs {
		for e := range walk.All(&defs[i].Body) {
			if e.Kind == api.ExprGlobal {
				needs[i] = append(needs[i], numbers[e.Name])
				loops[i] = loops[i] || e.Name == defs[i].Name
			}
		}
	}
	for _, members := range ring.Of(needs) {
		for _, i := range members {
			loops[i] = loops[i] || len(members) > 1
		}
	}
	return loops
}

// isShort tells whether an expression has, with all within it, no more than MaxInline.
func isShort(e *api.Expr) bool {
	count := 0
	for range walk.All(e) {
		count++
		if count > api.MaxInline {
			return false
		}
	}
	return true
}
