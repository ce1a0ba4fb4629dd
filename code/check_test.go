package code_test

import (
	"fmt"
	"math"
	"testing"

	"sloth/api"
)

// TestExamples: P17.1: the chapter's examples.
func TestExamples(t *testing.T) {
	for text, want := range map[string]api.Errno{
		"":                                   api.OK,
		`global "f" 0 int 1 update 1 unwind`: api.OK,
		`global "id" 1 push 0 update 2 pop 1 unwind`:                                                    api.OK,
		`global "add" 2 push 1 eval push 1 eval arith + update 3 pop 2 unwind`:                          api.OK,
		`global "n" 1 push 0 eval testcon "Nil" 6 pop 1 int 0 jump 8 pop 1 int 1 update 2 pop 1 unwind`: api.OK,
		`global "f" 0 int 1 unwind`:                                                                     api.ErrCodeStack,
		`global "f" 0 pop 1`:                                                                            api.ErrCodeStack,
		`global "f" 1 slide 1 unwind`:                                                                   api.ErrCodeStack,
		`global "f" 0`:                                                                                  api.ErrCodeFlow,
		`global "f" 0 int 1 update 1`:                                                                   api.ErrCodeFlow,
		`global "f" 0 jump 0`:                                                                           api.ErrCodeFlow,
		`global "f" 0 unwind unwind`:                                                                    api.ErrCodeFlow,
		`global "f" 25 unwind`:                                                                          api.ErrCodeName,
		`global "f" 0 fail 5`:                                                                           api.ErrCodeName,
		`global "f" 0 fail 1 global "f" 0 fail 1`:                                                       api.ErrCodeName,
	} {
		checkText(t, text, want)
	}
}

// effect says in the chapter's words what an instruction needs of the depth d, and what the depth behind it is.
type effect struct {
	x      api.Instr
	needs  func(d int) bool
	behind func(d int) int
}

func effects() []effect {
	always := func(int) bool { return true }
	more := func(n int) func(int) bool { return func(d int) bool { return d > n } }
	add := func(n int) func(int) int { return func(d int) int { return d + n } }
	l := []effect{
		{in(api.OpGlobal, 0), always, add(1)}, {in(api.OpInt, 5), always, add(1)}, {in(api.OpInt, -5), always, add(1)},
		{in(api.OpApply), more(2), add(-1)}, {in(api.OpArith, api.ArithAdd), more(2), add(-1)}, {in(api.OpArith, api.ArithGe), more(2), add(-1)},
		{in(api.OpEval), more(1), add(0)}, {in(api.OpTestCon, api.ShapeNil, 1), more(1), add(0)}, {in(api.OpTestInt, 7, 1), more(1), add(0)}, {in(api.OpJump, 1), always, add(0)},
	}
	for k := range 5 {
		l = append(l,
			effect{in(api.OpPush, k), more(k), add(1)}, effect{in(api.OpPop, k), more(k), add(-k)}, effect{in(api.OpAlloc, k), always, add(k)},
			effect{in(api.OpSlide, k), func(d int) bool { return k < d-1 }, add(-k)}, effect{in(api.OpUpdate, k+1), more(k + 1), add(-1)})
	}
	for c, fields := range []int{0, 0, 0, 0, 2, 2, 3, 8, 1} {
		l = append(l, effect{in(api.OpPack, c), more(fields), add(1 - fields)}, effect{in(api.OpSplit, c), more(1), add(fields - 1)})
	}
	return l
}

// TestDepths: P17.1, the table of instructions: at each depth an instruction is taken just if the depth is what it needs, and behind it so many can be taken off till the root stands alone as the table says.
func TestDepths(t *testing.T) {
	for _, e := range effects() {
		for d := 1; d <= 25; d++ {
			for k := range 35 {
				x := one(d-1, e.x, in(api.OpPop, k), in(api.OpUnwind))
				x.Shapes = append(x.Shapes, api.Shape{Name: "A", Fields: 8}, api.Shape{Name: "B", Fields: 1})
				want := api.ErrCodeStack
				if e.needs(d) && e.behind(d) == k+1 {
					want = api.OK
				}
				checkTable(t, fmt.Sprint(e.x, " at ", d, ", then pop ", k), x, want)
			}
		}
	}
}

// TestEnds: P17.1: OpUnwind needs the root alone, OpFail needs nothing; neither goes on.
func TestEnds(t *testing.T) {
	for arity := range 25 {
		want := api.ErrCodeStack
		if arity == 0 {
			want = api.OK
		}
		checkTable(t, fmt.Sprint("unwind, Arity ", arity), one(arity, in(api.OpUnwind)), want)
		for n := 1; n <= 4; n++ {
			checkTable(t, fmt.Sprint("fail, Arity ", arity), one(arity, in(api.OpFail, n)), api.OK)
		}
	}
	for _, end := range []api.Instr{in(api.OpUnwind), in(api.OpFail, 2), in(api.OpJump, 2)} {
		checkTable(t, fmt.Sprint("something behind ", end), one(0, end, in(api.OpUnwind), in(api.OpUnwind)), api.ErrCodeFlow)
	}
}

// around is a table in which an instruction stands at a depth at which all of its kind may; something to jump to stands behind it.
func around(x api.Instr) api.Table {
	ahead := repeat(12, in(api.OpInt, 1))
	t := one(0, append(ahead, x, in(api.OpFail, 1))...)
	switch x.Op {
	case api.OpFail:
		t.Globals[0].Code = append(ahead, x)
	case api.OpUnwind:
		t.Globals[0].Code = append(ahead, in(api.OpPop, 12), x)
	}
	t.Shapes = append(t.Shapes, api.Shape{Name: "A", Fields: 8})
	t.Globals = append(t.Globals, global("g", 3))
	return t
}

// TestNumbers: P17.1: each instruction with each of its numbers, right and one off; numbers that an instruction does not have; instructions that there are not.
func TestNumbers(t *testing.T) {
	const behind = 13 // the instruction behind the one that is asked about
	right := map[int][][2]int{
		api.OpPush: {{0}, {1}, {12}}, api.OpGlobal: {{0}, {1}}, api.OpInt: {{0}, {-1}, {api.MinInt}, {api.MaxInt}}, api.OpPop: {{0}, {1}, {12}}, api.OpSlide: {{0}, {1}, {11}},
		api.OpApply: {{}}, api.OpUpdate: {{1}, {12}}, api.OpAlloc: {{0}, {1}, {7987}}, api.OpPack: {{0}, {6}, {7}}, api.OpSplit: {{0}, {6}, {7}}, api.OpEval: {{}},
		api.OpArith: {{1}, {2}, {3}, {4}, {5}, {6}, {7}, {8}, {9}, {10}, {11}}, api.OpJump: {{behind}}, api.OpTestCon: {{0, behind}, {6, behind}, {7, behind}},
		api.OpTestInt: {{0, behind}, {-1, behind}, {api.MinInt, behind}, {api.MaxInt, behind}}, api.OpFail: {{1}, {2}, {3}, {4}}, api.OpUnwind: {{}},
	}
	wrong := map[int][][2]int{
		api.OpPush: {{-1}}, api.OpGlobal: {{-1}, {2}}, api.OpInt: {{api.MinInt - 1}, {api.MaxInt + 1}}, api.OpPop: {{-1}}, api.OpSlide: {{-1}},
		api.OpApply: {{1}, {-1}}, api.OpUpdate: {{0}, {-1}}, api.OpAlloc: {{-1}}, api.OpPack: {{-1}, {8}}, api.OpSplit: {{-1}, {8}}, api.OpEval: {{1}, {-1}},
		api.OpArith: {{0}, {12}, {-1}}, api.OpJump: {{behind, 1}, {behind, behind}}, api.OpTestCon: {{-1, behind}, {8, behind}},
		api.OpTestInt: {{api.MinInt - 1, behind}, {api.MaxInt + 1, behind}}, api.OpFail: {{0}, {5}, {-1}}, api.OpUnwind: {{1}, {-1}},
	}
	stack := map[int][][2]int{
		api.OpPush: {{13}, {math.MaxInt}}, api.OpPop: {{13}, {math.MaxInt}}, api.OpSlide: {{12}, {13}, {math.MaxInt}}, api.OpUpdate: {{13}, {math.MaxInt}}, api.OpAlloc: {{7988}, {8000}, {8001}, {math.MaxInt - 12}, {math.MaxInt}},
	}
	flow := map[int][][2]int{
		api.OpJump: {{behind + 1}, {behind - 1}, {0}, {-1}, {math.MaxInt}, {math.MinInt}}, api.OpTestCon: {{0, behind + 1}, {0, behind - 1}, {0, 0}, {0, -1}, {0, math.MaxInt}}, api.OpTestInt: {{0, behind + 1}, {0, behind - 1}, {0, 0}, {0, -1}, {0, math.MinInt}},
	}
	for op := 1; op <= 17; op++ {
		for want, l := range map[api.Errno][][2]int{api.OK: right[op], api.ErrCodeName: wrong[op], api.ErrCodeStack: stack[op], api.ErrCodeFlow: flow[op]} {
			for _, n := range l {
				x := in(op, n[0], n[1])
				checkTable(t, fmt.Sprint(x), around(x), want)
			}
		}
		if op == api.OpTestCon || op == api.OpTestInt {
			continue
		}
		for _, b := range []int{1, -1, behind, math.MaxInt, math.MinInt} {
			x := in(op, right[op][0][0], b)
			checkTable(t, fmt.Sprint(x), around(x), api.ErrCodeName)
		}
		if op != api.OpJump {
			x := in(op, math.MinInt)
			checkTable(t, fmt.Sprint(x), around(x), api.ErrCodeName)
		}
	}
	for _, op := range []int{0, -1, 18, 19, math.MaxInt, math.MinInt} {
		checkTable(t, fmt.Sprint("Op ", op), around(in(op)), api.ErrCodeName)
	}
}

// TestWays: P17.1: two ways to an instruction; jumps to the next one, to themselves, back and behind the last one; instructions to which no way leads; codes that go on behind their last instruction.
func TestWays(t *testing.T) {
	for text, want := range map[string]api.Errno{
		`push 0 testint 1 3 jump 3 pop 1 pop 1 unwind`:               api.OK,
		`push 0 testint 1 3 push 0 pop 1 pop 1 unwind`:               api.ErrCodeStack,
		`push 0 testint 1 4 push 0 jump 4 pop 1 pop 1 unwind`:        api.ErrCodeStack,
		`push 0 testint 1 5 push 0 jump 5 fail 1 pop 1 pop 1 unwind`: api.ErrCodeStack, // told of 3, ahead of 4, to which no way leads
		`push 0 testint 1 5 push 0 jump 6 fail 1 pop 1 pop 1 unwind`: api.ErrCodeFlow,  // no way leads to 4, ahead of 6, to which two would lead
		`push 0 testint 1 4 pop 1 jump 5 pop 1 pop 1 unwind`:         api.OK,
		`push 0 testint 1 4 pop 1 jump 6 pop 1 pop 1 unwind`:         api.ErrCodeStack,
		`testint 1 2 testint 2 3 testint 3 4 fail 1 pop 1 unwind`:    api.OK,
		`testint 1 1 pop 1 unwind`:                                   api.OK,
		`testcon "Nil" 1 pop 1 unwind`:                               api.OK,
		`jump 1 pop 1 unwind`:                                        api.OK,
		`jump 0 pop 1 unwind`:                                        api.ErrCodeFlow,
		`eval jump 1 pop 1 unwind`:                                   api.ErrCodeFlow,
		`eval jump 0 pop 1 unwind`:                                   api.ErrCodeFlow,
		`eval testint 0 1 pop 1 unwind`:                              api.ErrCodeFlow,
		`eval testint 0 0 pop 1 unwind`:                              api.ErrCodeFlow,
		`eval testcon "Nil" 1 pop 1 unwind`:                          api.ErrCodeFlow,
		`eval testcon "Nil" 0 pop 1 unwind`:                          api.ErrCodeFlow,
		`eval testcon "Nil" 3 pop 1 unwind`:                          api.ErrCodeStack,
		`eval testcon "Nil" 4 pop 1 unwind`:                          api.ErrCodeFlow,
		`eval jump 4 pop 1 unwind`:                                   api.ErrCodeFlow,
		`jump 2 pop 1 pop 1 unwind`:                                  api.ErrCodeFlow, // no way leads to 1
		`jump 1 jump 2 jump 3 pop 1 unwind`:                          api.OK,
		`testint 0 3 jump 4 fail 1 jump 5 jump 5 pop 1 unwind`:       api.ErrCodeFlow, // no way leads to 2
		`testint 0 2 jump 3 jump 3 pop 1 unwind`:                     api.OK,
		`fail 1 fail 1`:                                              api.ErrCodeFlow,
		`pop 1 unwind fail 1`:                                        api.ErrCodeFlow,
		`pop 1 unwind pop 1 unwind`:                                  api.ErrCodeFlow,
		`push 0`:                                                     api.ErrCodeFlow,
		`pop 1`:                                                      api.ErrCodeFlow,
		`pop 2`:                                                      api.ErrCodeStack,
		`alloc 7998`:                                                 api.ErrCodeFlow,
		`alloc 7999`:                                                 api.ErrCodeStack,
		`eval eval eval`:                                             api.ErrCodeFlow,
		`testint 0 1`:                                                api.ErrCodeFlow,
		`testint 0 2 fail 1`:                                         api.ErrCodeFlow,
		`testint 0 2 fail 1 eval`:                                    api.ErrCodeFlow,
		`jump 1`:                                                     api.ErrCodeFlow,
		`push 0 testint 0 6 push 0 testint 1 5 jump 5 pop 1 pop 1 pop 1 unwind`:    api.OK,
		`push 0 testint 0 6 push 0 testint 1 5 jump 5 eval pop 1 pop 1 unwind`:     api.ErrCodeStack,
		`push 0 testint 0 6 push 0 testint 1 5 jump 5 pop 1 pop 1 pop 0 fail 4`:    api.OK,
		`push 0 testint 0 5 testint 1 6 testint 2 7 jump 7 eval eval pop 2 unwind`: api.OK,
	} {
		checkText(t, `global "f" 1 `+text, want)
	}
}

// TestDepthLimit: P17.1: a depth of MaxCode and one more, by each instruction that makes the stack deeper.
func TestDepthLimit(t *testing.T) {
	deepen := map[api.Instr]int{in(api.OpPush, 0): 1, in(api.OpPush, 7000): 1, in(api.OpGlobal): 1, in(api.OpInt): 1, in(api.OpPack, api.ShapeNil): 1, in(api.OpSplit, api.ShapeCons): 1, in(api.OpSplit, api.ShapeTriple): 2, in(api.OpAlloc, 0): 0, in(api.OpAlloc, 1): 1, in(api.OpAlloc, 9): 9, in(api.OpEval): 0, in(api.OpSplit, 7): 7}
	for x, more := range deepen {
		for over := range 2 {
			y := one(24, in(api.OpAlloc, api.MaxCode-25-more+over), x, in(api.OpFail, 1))
			y.Shapes = append(y.Shapes, api.Shape{Name: "A", Fields: 8})
			want := api.OK
			if over > 0 {
				want = api.ErrCodeStack
			}
			checkTable(t, fmt.Sprint(x, " to ", api.MaxCode+over), y, want)
		}
	}
	// the depth falls again, and rises again
	checkTable(t, "up and down", one(0, in(api.OpAlloc, 7999), in(api.OpSlide, 7998), in(api.OpAlloc, 7998), in(api.OpPop, 7999), in(api.OpUnwind)), api.OK)
	checkTable(t, "MaxCode by steps", one(0, append(repeat(7999, in(api.OpInt, 1)), in(api.OpFail, 1))...), api.OK)
}

// TestNames: P17.1: names, and numbers of fields and arguments, that may be and that may not.
func TestNames(t *testing.T) {
	for i := range 256 {
		want := api.ErrCodeName
		if 32 <= i && i <= 126 {
			want = api.OK
		}
		for _, s := range []string{string([]byte{byte(i)}), "a" + string([]byte{byte(i)}) + "b"} {
			checkTable(t, fmt.Sprintf("a shape %q", s), api.Table{Shapes: shapes(api.Shape{Name: s})}, want)
			checkTable(t, fmt.Sprintf("a global %q", s), api.Table{Shapes: shapes(), Globals: []api.Global{global(s, 0)}}, want)
		}
	}
	for s, want := range map[string]api.Errno{"": api.ErrCodeName, long(api.MaxName): api.OK, long(api.MaxName + 1): api.ErrCodeName, long(100000): api.ErrCodeName, "é": api.ErrCodeName, "False": api.ErrCodeName, "false": api.OK} {
		checkTable(t, "a shape "+s, api.Table{Shapes: shapes(api.Shape{Name: s})}, want)
	}
	for s, want := range map[string]api.Errno{"": api.ErrCodeName, long(api.MaxName): api.OK, long(api.MaxName + 1): api.ErrCodeName, "é": api.ErrCodeName, "False": api.OK} {
		checkTable(t, "a global "+s, api.Table{Shapes: shapes(), Globals: []api.Global{global(s, 0)}}, want)
	}
	for _, n := range []int{math.MinInt, -1, 0, 1, 7, 8, 9, 24, 25, math.MaxInt} {
		want := api.ErrCodeName
		if 0 <= n && n <= api.MaxFields {
			want = api.OK
		}
		checkTable(t, fmt.Sprint("fields ", n), api.Table{Shapes: shapes(api.Shape{Name: "A", Fields: n})}, want)
		want = api.ErrCodeName
		if 0 <= n && n <= api.MaxArity {
			want = api.OK
		}
		checkTable(t, fmt.Sprint("Arity ", n), api.Table{Shapes: shapes(), Globals: []api.Global{global("f", n)}}, want)
	}
	a, b := api.Shape{Name: "A"}, api.Shape{Name: "A", Fields: 1}
	checkTable(t, "a shape twice", api.Table{Shapes: shapes(a, a)}, api.ErrCodeName)
	checkTable(t, "a shape twice, with other fields", api.Table{Shapes: shapes(a, api.Shape{Name: "B"}, b)}, api.ErrCodeName)
	checkTable(t, "a global twice", api.Table{Shapes: shapes(), Globals: []api.Global{global("f", 0), global("g", 0), global("f", 1)}}, api.ErrCodeName)
	checkTable(t, "a global and a shape of one name", api.Table{Shapes: shapes(a), Globals: []api.Global{global("A", 0), global("Nil", 0)}}, api.OK)
}

// TestSeven: P17.1: the first seven shapes, each of them missing, another, with other fields, or elsewhere.
func TestSeven(t *testing.T) {
	for n := range 7 {
		checkTable(t, fmt.Sprint("the first ", n), api.Table{Shapes: shapes()[:n]}, api.ErrCodeName)
		other, less, more := shapes(), shapes(), shapes()
		other[n].Name = "A"
		less[n].Fields--
		more[n].Fields++
		for _, l := range [][]api.Shape{other, less, more, append(shapes()[:n], shapes()[n+1:]...), append(append(shapes()[:n], api.Shape{Name: "A"}), shapes()[n:]...)} {
			checkTable(t, fmt.Sprint(l), api.Table{Shapes: l}, api.ErrCodeName)
		}
		for k := range n {
			l := shapes()
			l[n], l[k] = l[k], l[n]
			checkTable(t, fmt.Sprint(l), api.Table{Shapes: l}, api.ErrCodeName)
		}
	}
	checkTable(t, "the seven", api.Table{Shapes: shapes()}, api.OK)
	checkTable(t, "nothing", api.Table{}, api.ErrCodeName)
	checkTable(t, "a global alone", api.Table{Globals: []api.Global{global("f", 0)}}, api.ErrCodeName)
}
