package syntax

import (
	"slices"

	"sloth/api"
	"sloth/nest"
)

// crowded tells the place of the first bracket that opens when as many are open as may be.
func crowded(tokens []api.Token) (int, bool) {
	open := 0
	for _, t := range tokens {
		switch {
		case t.Kind != api.TokSpecial:
		case opens(t.Text):
			if open == api.MaxNest {
				return t.At, true
			}
			open++
		case closes(t.Text) && open > 0:
			open--
		}
	}
	return 0, false
}

func opens(special string) bool {
	return special == "(" || special == "[" || special == "{"
}

func closes(special string) bool {
	return special == ")" || special == "]" || special == "}"
}

// dataAbove, typeAbove and clauseAbove tell the limit of trees that a declaration is above, if it is.
func dataAbove(d api.Data) api.Errno {
	for _, c := range d.Cons {
		if typesAbove(c.Fields) {
			return api.ErrBig
		}
	}
	return api.OK
}

func typesAbove(l []api.Type) bool {
	return slices.ContainsFunc(l, func(t api.Type) bool { return typeAbove(t) != api.OK })
}

func typeAbove(t api.Type) api.Errno {
	if nodesLeft(t, api.MaxType) < 0 {
		return api.ErrBig
	}
	return api.OK
}

func clauseAbove(c api.Clause) api.Errno {
	if nest.ClauseAbove(c, api.MaxNest) {
		return api.ErrNest
	}
	return api.OK
}

// nodesLeft tells how many of so many nodes a type leaves over. It stops where none are left, so that it never goes far down.
func nodesLeft(t api.Type, left int) int {
	left--
	for i := 0; i < len(t.Args) && left >= 0; i++ {
		left = nodesLeft(t.Args[i], left)
	}
	return left
}
