package heap

import "sloth/api"

// What a move knows of a place, if it is not where the thing there stands now: that is kept one greater.
const (
	unmet  = 0
	passed = -1 // a NodeInd whose end is looked for
)

// move copies what can be reached to the other half.
type move struct {
	from  *half
	to    half
	known []int32 // of each place of from
	way   []int   // the NodeInds that are passed
}

// copied makes the other half, and tells where the roots are in it.
func copied(from *half, roots []int) (half, []int) {
	m := move{from: from, known: make([]int32, len(from.cells))}
	moved := make([]int, len(roots))
	for i, at := range roots {
		moved[i] = m.placeOf(at)
	}
	for at := 0; at < len(m.to.cells); at++ {
		m.lead(at)
	}
	return m.to, moved
}

// lead makes the Args of a node that was moved places of the half in which it is now. Those of a ring's NodeInd lead to itself then, since all the ring is known to be there.
func (m *move) lead(at int) {
	for i := range m.to.argsOf(at) {
		place := m.placeOf(m.to.argsOf(at)[i]) // args may be elsewhere behind this
		m.to.argsOf(at)[i] = place
	}
}

// placeOf tells where the thing at a place of from, passed over, stands now. What is met for the first time is moved.
func (m *move) placeOf(at int) int {
	m.way = m.way[:0]
	for m.known[at] == unmet && int(m.from.cells[at].head.kind) == api.NodeInd {
		m.known[at] = passed
		m.way = append(m.way, at)
		at = m.from.argsOf(at)[0]
	}
	if m.known[at] <= unmet { // passed: it is a ring, which any of its NodeInds may stand for
		m.known[at] = 1 + int32(m.to.put(m.from.cells[at].head, m.from.argsOf(at)))
	}
	for _, x := range m.way {
		m.known[x] = m.known[at]
	}
	return int(m.known[at]) - 1
}
