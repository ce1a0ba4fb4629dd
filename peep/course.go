package peep

import (
	"slices"

	"sloth/api"
)

// course is a code from which instructions go. What is left keeps its first number, so that no jump is to be led elsewhere but those to what went.
type course struct {
	code  []api.Instr
	spots []spot // one for each instruction, and one behind them, which closes the ring of those that are left
	low   int    // none ahead of it is marked
}

// spot is what is known of an instruction that is left.
type spot struct {
	back, on int  // the one ahead and the one behind that are left
	jumps    int  // how many jumps and tests that are left lead to it
	ways     int  // how many ways lead to it from what a way leads to
	isMarked bool // a rule may fit here
}

// newCourse begins with a code to each of whose instructions a way leads.
func newCourse(code []api.Instr) *course {
	c := &course{code: slices.Clone(code), spots: make([]spot, len(code)+1)}
	all := len(c.spots)
	for p := range c.spots {
		c.spots[p] = spot{back: (p + all - 1) % all, on: (p + 1) % all, isMarked: true}
	}
	c.spots[0].ways = 1
	for p := range c.code {
		c.lead(p)
	}
	return c
}

func goesOn(x api.Instr) bool {
	return x.Op != api.OpJump && x.Op != api.OpFail && x.Op != api.OpUnwind
}

func isTest(x api.Instr) bool { return x.Op == api.OpTestCon || x.Op == api.OpTestInt }

// targetOf tells where an instruction may jump to, if it may.
func targetOf(x api.Instr) (int, bool) {
	switch {
	case x.Op == api.OpJump:
		return x.A, true
	case isTest(x):
		return x.B, true
	}
	return 0, false
}

// led is a jump or a test that leads elsewhere.
func led(x api.Instr, to int) api.Instr {
	if x.Op == api.OpJump {
		x.A = to
	} else {
		x.B = to
	}
	return x
}

// mark says that a rule may fit at a place.
func (c *course) mark(p int) {
	c.spots[p].isMarked = true
	c.low = min(c.low, p)
}

// least takes the least marked place; the one behind all, if no other is marked.
func (c *course) least() int {
	for c.low < len(c.code) && !c.spots[c.low].isMarked {
		c.low++
	}
	c.spots[c.low].isMarked = false
	return c.low
}

// lead counts the ways of an instruction where they lead.
func (c *course) lead(p int) {
	if goesOn(c.code[p]) {
		c.spots[c.spots[p].on].ways++
	}
	if to, ok := targetOf(c.code[p]); ok {
		c.spots[to].jumps++
		c.spots[to].ways++
	}
}

// lose takes one way to a place away. Where that was the last one, none goes on from there either.
func (c *course) lose(p int) {
	if c.spots[p].ways--; c.spots[p].ways > 0 {
		return
	}
	c.mark(p)
	c.loseFrom(p, c.code[p])
}

// loseFrom takes away the ways that an instruction had from a place.
func (c *course) loseFrom(p int, x api.Instr) {
	if goesOn(x) {
		c.lose(c.spots[p].on)
	}
	if to, ok := targetOf(x); ok {
		c.lose(to)
	}
}

// jumpLess says that an instruction is there no more: where it jumped to, the one ahead may now take that as its y.
func (c *course) jumpLess(x api.Instr) {
	to, ok := targetOf(x)
	if !ok {
		return
	}
	if c.spots[to].jumps--; c.spots[to].jumps == 0 {
		c.mark(c.spots[to].back)
	}
}

// put lays another instruction at a place to which a way leads. Its ways are counted ahead of losing the others, since they may lead to the same.
func (c *course) put(p int, x api.Instr) {
	old := c.code[p]
	c.code[p] = x
	c.lead(p)
	c.loseFrom(p, old)
	c.jumpLess(old)
	c.mark(p)
	c.mark(c.spots[p].back)
}

// drop takes an instruction away; what led to it leads to the one behind it.
func (c *course) drop(p int) {
	s := &c.spots[p]
	c.carry(p)
	c.spots[s.on].jumps += s.jumps
	c.spots[s.on].ways += s.ways
	if s.ways > 0 {
		c.loseFrom(p, c.code[p])
	}
	c.spots[s.back].on, c.spots[s.on].back = s.on, s.back
	c.jumpLess(c.code[p])
	s.isMarked = false
	c.mark(s.back)
}

// carry leads all that jumped to a place to the one behind it.
func (c *course) carry(p int) {
	s := &c.spots[p]
	q := p
	for range s.jumps {
		for q = c.spots[q].back; !c.jumpsTo(q, p); {
			q = c.spots[q].back
		}
		c.code[q] = led(c.code[q], s.on)
		if !goesOn(c.code[s.on]) {
			c.mark(q)
		}
	}
}

func (c *course) jumpsTo(q, p int) bool {
	to, ok := targetOf(c.code[q])
	return ok && to == p
}

// left puts together what is left: pieces between what went.
func (c *course) left() []api.Instr {
	var l []api.Instr
	place := make([]int, len(c.code))
	end := len(c.code)
	for p := c.spots[end].on; p != end; p = c.spots[p].on {
		from := p
		for p+1 < end && c.spots[p].on == p+1 {
			p++
		}
		piece := c.code[from : p+1 : p+1]
		for i := range piece {
			place[from+i] = len(l) + i
		}
		l = append(l, piece...)
	}
	for i, x := range l {
		if to, ok := targetOf(x); ok {
			l[i] = led(x, place[to])
		}
	}
	return l
}
