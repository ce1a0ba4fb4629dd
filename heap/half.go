package heap

import (
	"slices"

	"sloth/api"
)

// half is one half of an arena: its nodes, and one list of what they lead to.
type half struct {
	cells []cell
	args  []int
}

// cell is a node, and where its Args begin. It has room for as many as it ever had, so that args does not grow with each Set.
type cell struct {
	head  head
	room  int8
	first int32
}

// head is a node without its Args.
type head struct {
	kind  int8
	count int8 // how many Args
	num   int
}

func headOf(n api.Node) head {
	return head{kind: int8(n.Kind), count: int8(len(n.Args)), num: n.Num}
}

// argsOf tells where a node leads, by memory of the half, which is good till something is added or set.
func (h *half) argsOf(at int) []int {
	c := &h.cells[at]
	return h.args[c.first:][:c.head.count]
}

func (h *half) node(at int) api.Node {
	c := h.cells[at].head
	return api.Node{Kind: int(c.kind), Num: c.num, Args: append([]int(nil), h.argsOf(at)...)}
}

// add tells the node's place.
func (h *half) add(n api.Node) int {
	return h.put(headOf(n), n.Args)
}

func (h *half) put(x head, args []int) int {
	h.cells = append(h.cells, cell{head: x, room: x.count, first: h.space(len(args))})
	at := len(h.cells) - 1
	copy(h.argsOf(at), args)
	return at
}

// space makes args longer, and tells where what is new begins.
func (h *half) space(count int) int32 {
	first := len(h.args)
	h.args = slices.Grow(h.args, count)[:first+count]
	return int32(first)
}

// set leaves a node alone that is the same already.
func (h *half) set(at int, n api.Node) {
	c, x := &h.cells[at], headOf(n)
	if c.head == x && slices.Equal(h.argsOf(at), n.Args) {
		return
	}
	if x.count > c.room {
		c.room, c.first = x.count, h.space(len(n.Args))
	}
	c.head = x
	copy(h.argsOf(at), n.Args)
}
