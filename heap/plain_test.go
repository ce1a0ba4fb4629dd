package heap_test

import (
	"slices"

	"sloth/api"
)

// plain is an arena by the chapter's words, with no thought of time or memory.
type plain struct {
	size        int
	nodes       []api.Node
	collections int
	met         map[string]int
}

func (p *plain) mayBe(n api.Node) bool {
	has := map[int]bool{api.NodeInt: true, api.NodeCon: true, api.NodeGlobal: true, api.NodeInput: true}
	args := map[int]int{api.NodeApply: 2, api.NodeInd: 1}
	switch {
	case n.Kind < api.NodeInt || n.Kind > api.NodeInput:
		return false
	case n.Kind == api.NodeInt && (n.Num < api.MinInt || n.Num > api.MaxInt):
		return false
	case n.Kind != api.NodeInt && n.Num < 0:
		return false
	case !has[n.Kind] && n.Num != 0:
		return false
	case n.Kind == api.NodeCon:
		return len(n.Args) <= api.MaxFields
	}
	return len(n.Args) == args[n.Kind]
}

func (p *plain) place(at int) bool { return at >= 0 && at < len(p.nodes) }

func (p *plain) places(l []int) bool {
	return !slices.ContainsFunc(l, func(at int) bool { return !p.place(at) })
}

func (p *plain) add(n api.Node) (int, api.Errno) {
	switch {
	case !p.mayBe(n):
		return 0, api.ErrArg
	case !p.places(n.Args):
		return 0, api.ErrHeapPlace
	case len(p.nodes) == p.size:
		return 0, api.ErrHeapRoom
	}
	p.nodes = append(p.nodes, clone(n))
	return len(p.nodes) - 1, api.OK
}

func (p *plain) set(at int, n api.Node) api.Errno {
	switch {
	case !p.place(at):
		return api.ErrHeapPlace
	case !p.mayBe(n):
		return api.ErrArg
	case !p.places(n.Args):
		return api.ErrHeapPlace
	case alike(p.nodes[at], n):
		p.met["set to the same"]++
	}
	p.nodes[at] = clone(n)
	return api.OK
}

// over is what a place's node is, passed over: its own place; or of a ring the least place of those that come back to themselves.
func (p *plain) over(at int) int {
	var way []int
	for p.nodes[at].Kind == api.NodeInd {
		if i := slices.Index(way, at); i >= 0 {
			p.met["a ring"]++
			if i > 0 {
				p.met["a ring from outside"]++
			}
			if len(way)-i > 2 {
				p.met["a ring of many"]++
			}
			return slices.Min(way[i:])
		}
		way = append(way, at)
		at = p.nodes[at].Args[0]
	}
	if len(way) > 1 {
		p.met["a chain"]++
	}
	return at
}

// reached are the things that can be reached, in the order in which they are met.
func (p *plain) reached(roots []int) []int {
	var things []int
	meet := func(at int) {
		if x := p.over(at); !slices.Contains(things, x) {
			things = append(things, x)
		} else {
			p.met["by two ways"]++
		}
	}
	for _, at := range roots {
		meet(at)
	}
	for i := 0; i < len(things); i++ {
		for _, at := range p.nodes[things[i]].Args {
			meet(at)
		}
	}
	return things
}

func (p *plain) collect(roots []int) ([]int, api.Errno) {
	if !p.places(roots) {
		return nil, api.ErrHeapPlace
	}
	things := p.reached(roots)
	if len(things) < len(p.nodes) {
		p.met["something gone"]++
	}
	number := func(at int) int { return slices.Index(things, p.over(at)) }
	var nodes []api.Node
	for _, at := range things {
		n := clone(p.nodes[at])
		for i, x := range n.Args {
			n.Args[i] = number(x)
		}
		nodes = append(nodes, n)
	}
	var moved []int
	for _, at := range roots {
		moved = append(moved, number(at))
	}
	p.nodes = nodes
	p.collections++
	return moved, api.OK
}

func (p *plain) room(n int, roots []int) ([]int, api.Errno) {
	switch {
	case n < 0:
		return nil, api.ErrArg
	case !p.places(roots):
		return nil, api.ErrHeapPlace
	case n <= p.size-len(p.nodes):
		p.met["room ahead"]++
		return slices.Clone(roots), api.OK
	}
	moved, _ := p.collect(roots)
	if n > p.size-len(p.nodes) {
		p.met["no room"]++
		return nil, api.ErrHeapRoom
	}
	p.met["room made"]++
	return moved, api.OK
}
