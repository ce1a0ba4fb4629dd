package types

import (
	"iter"
	"maps"
	"slices"

	"sloth/api"
)

// node is a node of a type that was laid into a graph.
type node struct {
	is     form
	name   string
	args   []int // nodes of the graph
	to     int   // a node that it was made one with; itself, if there is none
	inside bool  // of a variable: it stands within some type that was laid
	walk   int   // the last walk that came by
}

// graph holds types that share what their variables stand for, so that it is no greater than what was laid into it. Nothing in it stands within itself.
type graph struct {
	nodes     []node
	variables map[string]int
	walks     int
}

// lay makes nodes of a type; a variable has one node in all.
func (g *graph) lay(t api.Type) int {
	is := formOf(t)
	at, ok := g.variables[t.Name]
	if is == variable && ok {
		return at
	}
	args := make([]int, len(t.Args))
	for i, a := range t.Args {
		args[i] = g.lay(a)
		g.nodes[g.end(args[i])].inside = true
	}
	at = len(g.nodes)
	g.nodes = append(g.nodes, node{is: is, name: t.Name, args: args, to: at})
	if is == variable {
		g.variables[t.Name] = at
	}
	return at
}

// end tells the node that stands for all that were made one with this one. The ways there grow shorter as they are gone.
func (g *graph) end(n int) int {
	for g.nodes[n].to != n {
		g.nodes[n].to = g.nodes[g.nodes[n].to].to
		n = g.nodes[n].to
	}
	return n
}

// task is a pair of nodes that are to agree; or whose Args do, so that they are one.
type task struct {
	a, b int
	done bool
}

// agree makes two nodes agree. Those that do are made one, so that no two are looked at twice; but only when their Args agree: else something might stand within itself.
func (g *graph) agree(a, b int) api.Errno {
	for tasks := []task{{a: a, b: b}}; len(tasks) > 0; {
		last := len(tasks) - 1
		next := tasks[last]
		tasks = tasks[:last]
		a, b := g.end(next.a), g.end(next.b)
		code := api.OK
		switch one, other := &g.nodes[a], &g.nodes[b]; {
		case a == b:
		case next.done:
			one.to = b
		case one.is == variable && other.is == variable:
			g.join(a, b)
		case one.is == variable:
			code = g.bind(a, b)
		case other.is == variable:
			code = g.bind(b, a)
		case one.is != other.is || one.name != other.name || len(one.args) != len(other.args):
			code = api.ErrTypesMismatch
		default:
			tasks = append(tasks, task{a, b, true})
			for i := len(one.args) - 1; i >= 0; i-- {
				tasks = append(tasks, task{a: one.args[i], b: other.args[i]})
			}
		}
		if code != api.OK {
			return code
		}
	}
	return api.OK
}

// join makes one of two variables: that of the least name.
func (g *graph) join(a, b int) {
	if g.nodes[a].name > g.nodes[b].name {
		a, b = b, a
	}
	g.nodes[b].to = a
	g.nodes[a].inside = g.nodes[a].inside || g.nodes[b].inside
}

// bind lets a variable stand for what is no variable. Most variables stand within nothing when that comes, and need no walk.
func (g *graph) bind(v, n int) api.Errno {
	if g.nodes[v].inside {
		for within := range g.variablesIn(n) {
			if within == v {
				return api.ErrTypesOccurs
			}
		}
	}
	g.nodes[v].to = n
	return api.OK
}

// variablesIn goes through the variables that stand in a node and stand for nothing, each once.
func (g *graph) variablesIn(n int) iter.Seq[int] {
	return func(yield func(int) bool) {
		g.walks++
		for rest := []int{n}; len(rest) > 0; {
			last := len(rest) - 1
			at := g.end(rest[last])
			rest = rest[:last]
			here := &g.nodes[at]
			if here.walk == g.walks {
				continue
			}
			here.walk = g.walks
			if here.is == variable && !yield(at) {
				return
			}
			rest = append(rest, here.args...)
		}
	}
}

// isAbove tells whether some variable stands for more nodes than may be.
func (g *graph) isAbove() bool {
	for _, v := range g.variables {
		if g.nodesLeft(v, api.MaxType) < 0 {
			return true
		}
	}
	return false
}

// nodesLeft tells how many of so many nodes a node leaves over, worked out. It stops where none are left, so that it never goes far, however great the type is.
func (g *graph) nodesLeft(n, left int) int {
	args := g.nodes[g.end(n)].args
	left--
	for i := 0; i < len(args) && left >= 0; i++ {
		left = g.nodesLeft(args[i], left)
	}
	return left
}

// bounds tells what the variables stand for that do not stand for themselves.
func (g *graph) bounds() []api.Bound {
	var l []api.Bound
	for _, name := range slices.Sorted(maps.Keys(g.variables)) {
		if v := g.variables[name]; g.end(v) != v {
			l = append(l, api.Bound{Name: name, Type: g.typeOf(v)})
		}
	}
	return l
}

// typeOf works a node out to the end.
func (g *graph) typeOf(n int) api.Type {
	at := g.nodes[g.end(n)]
	t := api.Type{Kind: at.is.kind(), Name: at.name}
	for _, a := range at.args {
		t.Args = append(t.Args, g.typeOf(a))
	}
	return t
}
