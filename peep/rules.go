package peep

import "sloth/api"

// shorten carries out the rule of the least number at the least place, as long as one fits. The numbers are the chapter's.
func (c *course) shorten() {
	var p, q int
	var x, y api.Instr
begin:
	if p = c.least(); p == len(c.code) {
		return
	}
	x, q = c.code[p], c.spots[p].on
	if c.spots[p].ways == 0 || isIdle(x) || x.Op == api.OpJump && x.A == q { // 1, 2, 3
		goto nothing
	}
	if x.Op == api.OpJump && !goesOn(c.code[x.A]) || isTest(x) && c.code[x.B].Op == api.OpJump { // 4, 5
		goto further
	}
	if q == len(c.code) || c.spots[q].jumps > 0 { // no other rule fits without y
		goto begin
	}
	y = c.code[q]
	if isSum(x, y) { // 6, 7
		goto sum
	}
	if isPush(x) && y.Op == api.OpPop && y.A > 0 { // 8
		goto less
	}
	if x.Op == api.OpPush && x.A == 0 && y.Op == api.OpSlide && y.A == 1 { // 9
		goto neither
	}
	if isHead(x) && y.Op == api.OpEval || isAsked(x, y) && x.A == y.A { // 10, 11
		goto first
	}
	if !isAsked(x, y) { // 12
		goto begin
	}
	c.put(q, api.Instr{Op: api.OpJump, A: y.B})
	goto begin
nothing:
	c.drop(p)
	goto begin
further:
	c.put(p, c.further(x))
	goto begin
sum:
	c.put(p, api.Instr{Op: y.Op, A: x.A + y.A})
	goto first
less:
	c.put(p, api.Instr{Op: api.OpPop, A: y.A - 1})
first:
	c.drop(q)
	goto begin
neither:
	c.drop(q)
	goto nothing
}

// further is a jump or a test that leads past all jumps that it meets; a jump to an end is that end. The rules go on from jump to jump, one by one; nothing else can fit there or ahead meanwhile, since jumps lead forward.
func (c *course) further(x api.Instr) api.Instr {
	to, _ := targetOf(x)
	for c.code[to].Op == api.OpJump {
		to = c.code[to].A
	}
	if x.Op == api.OpJump && !goesOn(c.code[to]) {
		return c.code[to]
	}
	return led(x, to)
}

// isIdle: it does nothing.
func isIdle(x api.Instr) bool {
	return x.A == 0 && (x.Op == api.OpPop || x.Op == api.OpSlide || x.Op == api.OpAlloc)
}

// isSum: what both take away one instruction of y's kind takes away.
func isSum(x, y api.Instr) bool {
	if x.Op == api.OpSlide && y.Op == api.OpPop {
		return y.A > 0
	}
	return x.Op == y.Op && (x.Op == api.OpPop || x.Op == api.OpSlide)
}

func isPush(x api.Instr) bool { return x.Op == api.OpPush || x.Op == api.OpGlobal }

// isHead: what it leaves on top is worked out.
func isHead(x api.Instr) bool {
	return x.Op == api.OpEval || x.Op == api.OpInt || x.Op == api.OpPack || x.Op == api.OpArith
}

// isAsked: y asks what x has just made.
func isAsked(x, y api.Instr) bool {
	return x.Op == api.OpInt && y.Op == api.OpTestInt || x.Op == api.OpPack && y.Op == api.OpTestCon
}
