// Package typing: what is asked of the types of definitions that need one another (../shared/doc/06-infer.md). Package infer asks whether it can be met, package elab what the type of each thing is then.
package typing

import (
	"slices"
	"strings"

	"sloth/api"
)

// Group is the definitions of a group, in their order, and the constraints of the types in them.
type Group struct {
	Functions []Function
	Pairs     []api.Pair
	ends      []int // of each definition's pairs
}

// Function is a definition, or a name of a let, with its clauses. Here and below a Type is the variable of the thing's type.
type Function struct {
	Name string
	Type api.Type
	Rows []Row
}

// Row is a clause, an alternative of a case, or what a lambda is made of.
type Row struct {
	Pats   []api.Pat
	Types  []api.Type // of the patterns
	Locals []api.Sig  // the variables of the patterns, from the left
	Body   Term
}

// Term is an expression.
type Term struct {
	Kind int // of an api.Term, as Name and Num are
	Name string
	Num  int
	Type api.Type
	Args []Term     // as of an api.Term; a lambda's body stands in its row
	Lets []Function // of a let: its names
	Rows []Row      // of a lambda: one; of a case: its alternatives
}

// Owner tells among which definition's constraints a pair stands.
func (g *Group) Owner(pair int) int {
	d := 0
	for g.ends[d] <= pair {
		d++
	}
	return d
}

// Worth tells what a variable stands for by Bounds that are sorted.
func Worth(bounds []api.Bound, variable api.Type) api.Type {
	at, ok := slices.BinarySearchFunc(bounds, variable.Name, func(b api.Bound, name string) int {
		return strings.Compare(b.Name, name)
	})
	if !ok {
		return variable
	}
	return bounds[at].Type
}
