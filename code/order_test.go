package code_test

import (
	"fmt"
	"math"
	"testing"

	"sloth/api"
)

// fault makes a right table wrong in one way.
type fault struct {
	what string
	do   func(x *api.Table)
	want api.Errno
}

// base has three further shapes and three globals; all are right.
func base() api.Table {
	var l []api.Global
	for _, name := range []string{"f", "g", "h"} {
		l = append(l, api.Global{Name: name, Arity: 1, Code: []api.Instr{in(api.OpPush, 0), in(api.OpEval), in(api.OpTestInt, 1, 4), in(api.OpJump, 4), in(api.OpPop, 2), in(api.OpUnwind)}})
	}
	return api.Table{Shapes: shapes(api.Shape{Name: "A"}, api.Shape{Name: "B", Fields: 1}, api.Shape{Name: "C", Fields: 8}), Globals: l}
}

// faultsInOrder are faults of a table, each of which is told ahead of all behind it.
func faultsInOrder() []fault {
	l := []fault{
		{"too many instructions", func(x *api.Table) { x.Globals[2].Code = repeat(api.MaxCode+1, api.Instr{}) }, api.ErrBig},
		{"a shape's fields", func(x *api.Table) { x.Shapes[8].Fields = 9 }, api.ErrCodeName},
		{"a shape's name", func(x *api.Table) { x.Shapes[9].Name = "A" }, api.ErrCodeName},
		{"the seven", func(x *api.Table) { x.Shapes[0].Name = "No" }, api.ErrCodeName},
		{"an Arity", func(x *api.Table) { x.Globals[2].Arity = 25 }, api.ErrCodeName},
		{"a global's name", func(x *api.Table) { x.Globals[1].Name = "" }, api.ErrCodeName},
	}
	set := func(g, i int, y api.Instr) func(x *api.Table) {
		return func(x *api.Table) { x.Globals[g].Code[i] = y }
	}
	for g := range 3 {
		at := func(s string) string { return fmt.Sprint("global ", g, ": ", s) }
		l = append(l,
			fault{at("a jump back at 0"), set(g, 0, in(api.OpJump, 0)), api.ErrCodeFlow},
			fault{at("no Op at 1"), set(g, 1, api.Instr{}), api.ErrCodeName},
			fault{at("a jump behind the last at 3"), set(g, 3, in(api.OpJump, 6)), api.ErrCodeFlow},
			fault{at("a number at 4"), set(g, 4, in(api.OpPop, -1)), api.ErrCodeName},
			fault{at("no depth for 2"), set(g, 2, in(api.OpSlide, 2)), api.ErrCodeStack},
			fault{at("5 goes on"), set(g, 5, in(api.OpEval)), api.ErrCodeStack}, // the root alone is no depth for it, ahead of that it goes on
		)
	}
	return l
}

// TestOrder: P17.1: of two faults at once, the one that the chapter names first.
func TestOrder(t *testing.T) {
	checkTable(t, "the base", base(), api.OK)
	l := faultsInOrder()
	for i, a := range l {
		x := base()
		a.do(&x)
		checkTable(t, a.what, x, a.want)
		for _, b := range l[i+1:] {
			y := base()
			if a.want == api.ErrBig {
				b.do(&y)
				a.do(&y)
			} else {
				a.do(&y)
				b.do(&y)
			}
			checkTable(t, a.what+"; "+b.what, y, a.want)
		}
	}
}

// TestOrderWithin: P17.1: two faults in one code, and in one instruction.
func TestOrderWithin(t *testing.T) {
	for i, x := range []struct {
		arity int
		code  []api.Instr
		want  api.Errno
	}{
		// a number that may not be, ahead of where it jumps to, of the same instruction; instruction by instruction else
		{1, []api.Instr{in(api.OpTestCon, 7, 0), in(api.OpFail, 1)}, api.ErrCodeName},
		{1, []api.Instr{in(api.OpTestCon, -1, 9), in(api.OpFail, 1)}, api.ErrCodeName},
		{1, []api.Instr{in(api.OpTestInt, api.MaxInt+1, -1), in(api.OpFail, 1)}, api.ErrCodeName},
		{1, []api.Instr{in(api.OpJump, -1, 1), in(api.OpFail, 1)}, api.ErrCodeName},
		{1, []api.Instr{in(api.OpJump, 0), in(api.OpFail, 5)}, api.ErrCodeFlow},
		{1, []api.Instr{in(api.OpFail, 5), in(api.OpJump, 0)}, api.ErrCodeName},
		{1, []api.Instr{in(api.OpTestInt, 0, 2), in(18)}, api.ErrCodeFlow},
		{1, []api.Instr{in(18), in(api.OpTestInt, 0, 2)}, api.ErrCodeName},
		// all numbers ahead of all depths and ways
		{0, []api.Instr{in(api.OpPop, 1), in(api.OpFail, 5)}, api.ErrCodeName},
		{0, []api.Instr{in(api.OpUnwind), in(api.OpUnwind, 1)}, api.ErrCodeName},
		{0, []api.Instr{in(api.OpPop, 1), in(api.OpJump, 1)}, api.ErrCodeFlow},
		{0, []api.Instr{in(api.OpPop, 1), in(api.OpPop, math.MinInt)}, api.ErrCodeName},
		// no way to it, ahead of the depth; by rising numbers
		{0, []api.Instr{in(api.OpUnwind), in(api.OpPop, 1)}, api.ErrCodeFlow},
		{0, []api.Instr{in(api.OpPop, 1), in(api.OpUnwind), in(api.OpUnwind)}, api.ErrCodeStack},
		{0, []api.Instr{in(api.OpUnwind), in(api.OpUnwind), in(api.OpPop, 1)}, api.ErrCodeFlow},
		{0, []api.Instr{in(api.OpInt), in(api.OpUnwind), in(api.OpUnwind)}, api.ErrCodeStack},
		// the depth ahead of going on behind the last instruction
		{0, []api.Instr{in(api.OpPop, 1)}, api.ErrCodeStack},
		{0, []api.Instr{in(api.OpAlloc, 8000)}, api.ErrCodeStack},
		{0, []api.Instr{in(api.OpAlloc, 7999)}, api.ErrCodeFlow},
		{0, []api.Instr{in(api.OpInt, 1), in(api.OpApply)}, api.ErrCodeStack},
		// another depth at the next one, or where it jumps to, ahead of what is wrong there
		{1, []api.Instr{in(api.OpTestInt, 0, 2), in(api.OpInt), in(api.OpPop, 9)}, api.ErrCodeStack},
		{1, []api.Instr{in(api.OpTestInt, 0, 4), in(api.OpInt), in(api.OpTestInt, 1, 4), in(api.OpFail, 1), in(api.OpFail, 1)}, api.ErrCodeStack},
		{1, []api.Instr{in(api.OpTestInt, 0, 4), in(api.OpInt), in(api.OpJump, 4), in(api.OpFail, 1), in(api.OpFail, 1)}, api.ErrCodeStack},
		{1, []api.Instr{in(api.OpTestInt, 0, 4), in(api.OpInt), in(api.OpJump, 5), in(api.OpFail, 1), in(api.OpInt), in(api.OpFail, 1)}, api.ErrCodeFlow},
	} {
		checkTable(t, fmt.Sprint(i, ": ", x.code), one(x.arity, x.code...), x.want)
		wrong := one(x.arity, x.code...)
		for name, code := range map[string][]api.Instr{"no instruction": nil, "no depth": {in(api.OpApply)}, "no name": {in(api.OpPack, 7)}} {
			y := wrong
			y.Globals = append(y.Globals[:1:1], api.Global{Name: "g", Code: code})
			checkTable(t, fmt.Sprint(i, ": ", x.code, " and ", name), y, x.want)
		}
	}
}
