package peep_test

import (
	"fmt"
	"slices"

	"sloth/api"
)

// This file says by the chapter's words, slowly, what Peep answers of a right table.

// deed is a rule that was carried out.
type deed struct{ rule, place int }

func (d deed) String() string { return fmt.Sprintf("%d@%d", d.rule, d.place) }

func plainPeep(t api.Table) (api.Table, []deed) {
	t = clone(t)
	var all []deed
	for i := range t.Globals {
		code := t.Globals[i].Code
		for {
			d, next, ok := plainStep(code)
			if !ok {
				break
			}
			all = append(all, d)
			code = next
		}
		t.Globals[i].Code = code
	}
	return t, all
}

// plainTargets tells where jumps and tests of a code lead.
func plainTargets(l []api.Instr) map[int]bool {
	to := map[int]bool{}
	for _, x := range l {
		switch x.Op {
		case api.OpJump:
			to[x.A] = true
		case api.OpTestCon, api.OpTestInt:
			to[x.B] = true
		}
	}
	return to
}

// plainReached tells to which instructions ways lead.
func plainReached(l []api.Instr) map[int]bool {
	seen := map[int]bool{}
	wait := []int{0}
	for len(wait) > 0 {
		p := wait[0]
		if wait = wait[1:]; seen[p] {
			continue
		}
		seen[p] = true
		switch x := l[p]; x.Op {
		case api.OpFail, api.OpUnwind:
		case api.OpJump:
			wait = append(wait, x.A)
		case api.OpTestCon, api.OpTestInt:
			wait = append(wait, p+1, x.B)
		default:
			wait = append(wait, p+1)
		}
	}
	return seen
}

// plainStep carries one rule out, if one fits.
func plainStep(l []api.Instr) (deed, []api.Instr, bool) {
	to, reached := plainTargets(l), plainReached(l)
	for p := range l {
		for rule := 1; rule <= 12; rule++ {
			var y *api.Instr
			if p+1 < len(l) && !to[p+1] {
				y = &l[p+1]
			}
			if went, comes, ok := plainRule(rule, l, p, y, reached[p]); ok {
				return deed{rule, p}, plainCarry(l, p, went, comes), true
			}
		}
	}
	return deed{}, nil, false
}

// plainRule tells how many instructions give place to which, if a rule fits.
func plainRule(rule int, l []api.Instr, p int, y *api.Instr, reached bool) (int, []api.Instr, bool) {
	x := l[p]
	isTest := x.Op == api.OpTestCon || x.Op == api.OpTestInt
	switch rule {
	case 1:
		return 1, nil, !reached
	case 2:
		return 1, nil, (x.Op == api.OpPop || x.Op == api.OpSlide || x.Op == api.OpAlloc) && x.A == 0
	case 3:
		return 1, nil, x.Op == api.OpJump && x.A == p+1
	case 4:
		if x.Op == api.OpJump {
			z := l[x.A]
			return 1, []api.Instr{z}, z.Op == api.OpJump || z.Op == api.OpFail || z.Op == api.OpUnwind
		}
	case 5:
		if isTest && l[x.B].Op == api.OpJump {
			return 1, []api.Instr{{Op: x.Op, A: x.A, B: l[x.B].A}}, true
		}
	}
	if rule < 6 || y == nil {
		return 0, nil, false
	}
	return plainPair(rule, x, *y)
}

func plainPair(rule int, x, y api.Instr) (int, []api.Instr, bool) {
	asked := x.Op == api.OpInt && y.Op == api.OpTestInt || x.Op == api.OpPack && y.Op == api.OpTestCon
	switch rule {
	case 6:
		return 2, []api.Instr{{Op: x.Op, A: x.A + y.A}}, x.Op == y.Op && (x.Op == api.OpPop || x.Op == api.OpSlide)
	case 7:
		return 2, []api.Instr{{Op: api.OpPop, A: x.A + y.A}}, x.Op == api.OpSlide && y.Op == api.OpPop && y.A > 0
	case 8:
		return 2, []api.Instr{{Op: api.OpPop, A: y.A - 1}}, (x.Op == api.OpPush || x.Op == api.OpGlobal) && y.Op == api.OpPop && y.A > 0
	case 9:
		return 2, nil, x == api.Instr{Op: api.OpPush} && y == api.Instr{Op: api.OpSlide, A: 1}
	case 10:
		return 2, []api.Instr{x}, slices.Contains([]int{api.OpEval, api.OpInt, api.OpPack, api.OpArith}, x.Op) && y.Op == api.OpEval
	case 11:
		return 2, []api.Instr{x}, asked && x.A == y.A
	case 12:
		return 2, []api.Instr{x, {Op: api.OpJump, A: y.B}}, asked && x.A != y.A
	}
	return 0, nil, false
}

// plainCarry puts instructions in the place of others; jumps that came are carried on as those that were there.
func plainCarry(l []api.Instr, p, went int, comes []api.Instr) []api.Instr {
	next := slices.Concat(l[:p], comes, l[p+went:])
	for i, x := range next {
		switch x.Op {
		case api.OpJump:
			next[i].A = plainPlace(x.A, p, went, len(comes))
		case api.OpTestCon, api.OpTestInt:
			next[i].B = plainPlace(x.B, p, went, len(comes))
		}
	}
	return next
}

// plainPlace tells where a jump leads then: what led behind leads there still; what led to the place of x, or of something that went, leads to what stands at that place then.
func plainPlace(to, p, went, comes int) int {
	switch {
	case to >= p+went:
		return to - went + comes
	case to > p && comes == 0:
		return p
	case to > p:
		return min(to, p+comes)
	}
	return to
}
