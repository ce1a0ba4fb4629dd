// Package walk: expressions of a program gone through with all within them.
package walk

import (
	"iter"
	"slices"

	"sloth/api"
)

// All goes through an expression and all expressions in it, each ahead of its parts. (A lambda's Value is none.) What is still to be gone through stands in a list, so that depth costs no stack.
func All(e *api.Expr) iter.Seq[*api.Expr] {
	return func(yield func(*api.Expr) bool) {
		left := []*api.Expr{e}
		for len(left) > 0 {
			last := len(left) - 1
			e := left[last]
			left = left[:last]
			if !yield(e) {
				return
			}
			left = appendParts(left, e)
		}
	}
}

func appendParts(l []*api.Expr, e *api.Expr) []*api.Expr {
	for i := range e.Args {
		l = append(l, &e.Args[i])
	}
	for i := range e.Binds {
		if e.Kind != api.ExprLam {
			l = append(l, &e.Binds[i].Value)
		}
	}
	for i := range e.Alts {
		l = append(l, &e.Alts[i].Body)
	}
	return l
}

// Body is what stands within the lambdas at the beginning of an expression.
func Body(e *api.Expr) (body *api.Expr, lambdas int) {
	for body = e; body.Kind == api.ExprLam; lambdas++ {
		body = &body.Args[0]
	}
	return body, lambdas
}

// Spine is an expression as a head, which is no ExprApp, and its arguments.
func Spine(e *api.Expr) (head *api.Expr, args []*api.Expr) {
	for head = e; head.Kind == api.ExprApp; head = &head.Args[0] {
		args = append(args, &head.Args[1])
	}
	slices.Reverse(args)
	return head, args
}

// Names goes through the names of the locals that are bound in an expression and in all within it.
func Names(e *api.Expr) iter.Seq[string] {
	return func(yield func(string) bool) {
		for e := range All(e) {
			for i := range e.Binds {
				if !yield(e.Binds[i].Name) {
					return
				}
			}
			for i := range e.Alts {
				for _, name := range e.Alts[i].Vars {
					if !yield(name) {
						return
					}
				}
			}
		}
	}
}
