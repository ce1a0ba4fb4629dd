package peep_test

import (
	"fmt"
	"slices"
	"testing"

	"sloth/api"
)

// checkLong: a code becomes another one, in bearable time. (The second form would take too long.)
func checkLong(t *testing.T, what string, arity int, l, want []api.Instr) {
	t.Helper()
	soon(t, what, func() {
		if got := peeped(t, one(arity, l)); !alike(got, one(arity, want)) {
			t.Errorf("%s: %s", what, shown(got))
		}
	})
}

// filled is a code of MaxCode instructions: what stands ahead, so many of what is between, what stands behind.
func filled(ahead, between, behind []api.Instr) []api.Instr {
	l := slices.Clone(ahead)
	for len(l)+len(between)+len(behind) <= api.MaxCode {
		l = append(l, between...)
	}
	for len(l)+len(behind) < api.MaxCode {
		l = append(l, in(api.OpPop))
	}
	return append(l, behind...)
}

// TestMaxCode: P19.1: codes of MaxCode instructions, and of one more.
func TestMaxCode(t *testing.T) {
	fail := []api.Instr{in(api.OpFail, 1)}
	for _, x := range []struct {
		what          string
		between, want []api.Instr
	}{
		{"nothing", []api.Instr{in(api.OpPop)}, nil},
		{"pairs", []api.Instr{in(api.OpPush, 1), in(api.OpPop, 1)}, nil},
		{"doubles", []api.Instr{in(api.OpPush), in(api.OpSlide, 1)}, nil},
		{"evals", []api.Instr{in(api.OpEval)}, []api.Instr{in(api.OpEval)}},
		{"threes", []api.Instr{in(api.OpGlobal), in(api.OpPush, 2), in(api.OpPop, 2)}, nil},
	} {
		checkLong(t, x.what, 3, filled(nil, x.between, fail), slices.Concat(x.want, fail))
	}
	split := []api.Instr{in(api.OpSplit, api.ShapeTriple+1)} // it neither grows nor shrinks the stack
	nothing := filled(nil, split, fail)
	checkLong(t, "a code of which nothing goes", 3, nothing, nothing)
	checkError(t, "a code that is too long", one(3, append(nothing, fail...)), api.ErrBig)
	// rule 12 has two instructions give place to two
	other := []api.Instr{in(api.OpInt, 1), in(api.OpTestInt, 2, api.MaxCode-2)}
	l := filled(other, []api.Instr{in(api.OpEval), in(api.OpPush, 1), in(api.OpPop, 1)}, []api.Instr{in(api.OpApply), fail[0]})
	checkLong(t, "rule 12 at the beginning", 3, l, []api.Instr{in(api.OpInt, 1), in(api.OpApply), fail[0]})
	l = filled(nil, split, slices.Concat(other, []api.Instr{in(api.OpEval), in(api.OpApply), fail[0]}))
	checkLong(t, "rule 12 at the end", 3, l, slices.Concat(l[:api.MaxCode-5], []api.Instr{in(api.OpInt, 1), in(api.OpApply), fail[0]}))
	l = filled(nil, split, []api.Instr{in(api.OpInt, 1), in(api.OpTestInt, 2, api.MaxCode-1), fail[0], in(api.OpFail, 2)})
	checkLong(t, "rule 12 at the last", 3, l, slices.Concat(l[:api.MaxCode-4], []api.Instr{in(api.OpInt, 1), in(api.OpFail, 2)}))
}

// TestSums: P19.1: sums of rules 6, 7 and 8 up to what the greatest stack has.
func TestSums(t *testing.T) {
	most := api.MaxCode - 1 // of which an Alloc makes a stack of MaxCode nodes
	alloc, fail := in(api.OpAlloc, most), in(api.OpFail, 1)
	for _, x := range []struct{ x, y, want api.Instr }{
		{in(api.OpPop, most-1), in(api.OpPop, 1), in(api.OpPop, most)},
		{in(api.OpPop, 1), in(api.OpPop, most-1), in(api.OpPop, most)},
		{in(api.OpSlide, most-2), in(api.OpSlide, 1), in(api.OpSlide, most-1)},
		{in(api.OpSlide, most-1), in(api.OpPop, 1), in(api.OpPop, most)},
	} {
		checkCode(t, 0, []api.Instr{alloc, x.x, x.y, fail}, []api.Instr{alloc, x.want, fail}, map[bool]string{true: "6@1", false: "7@1"}[x.x.Op == x.y.Op])
		for _, y := range []api.Instr{in(api.OpPop, api.MaxCode), in(api.OpSlide, api.MaxCode), in(api.OpPop, api.MaxInt)} { // no sum goes past MaxCode
			checkError(t, fmt.Sprint(x.x, y), one(0, []api.Instr{alloc, x.x, y, fail}), api.ErrCodeStack)
		}
	}
	pops := slices.Concat([]api.Instr{alloc}, slices.Repeat([]api.Instr{in(api.OpPop, 2)}, most/2), []api.Instr{fail})
	checkLong(t, "very many pops", 0, pops, []api.Instr{alloc, in(api.OpPop, most/2*2), fail})
	pushes := slices.Concat(slices.Repeat([]api.Instr{in(api.OpPush)}, api.MaxCode/2), slices.Repeat([]api.Instr{in(api.OpPop, 1)}, api.MaxCode/2-1), []api.Instr{fail})
	checkLong(t, "pushes that are popped", 0, pushes, []api.Instr{in(api.OpPush), fail})
}

// costly are codes of MaxCode instructions in which very much is carried out, or very many places are looked at again; and what they become.
func costly() map[string][2][]api.Instr {
	const n = api.MaxCode/2 - 1
	apply, fail := in(api.OpApply), in(api.OpFail, 1)
	codes := map[string][2][]api.Instr{}
	tests := func(to int) []api.Instr {
		l := make([]api.Instr, n)
		for i := range l {
			l[i] = in(api.OpTestInt, i, to)
		}
		return l
	}
	for step := range 3 { // each test is led along up to n jumps
		codes[fmt.Sprint("rows of jumps, ", step+1, " on")] = [2][]api.Instr{rows(n, step+1), append(tests(n), apply, fail)}
	}
	codes["tests led by one row"] = [2][]api.Instr{slices.Concat(tests(n), rows(n, 1)[n:]), append(tests(n), apply, fail)}
	codes["tests led to what goes"] = [2][]api.Instr{slices.Concat(tests(n), slices.Repeat([]api.Instr{in(api.OpAlloc)}, n), []api.Instr{apply, fail}), append(tests(n), apply, fail)}
	// each test leads to what goes, behind which a jump stands: far ahead a rule fits then
	l, want := tests(0)[:n/2], tests(n / 2)[:n/2]
	for i := range n / 2 {
		l[i].B = n/2 + 2*i
		l = append(l, in(api.OpPop), in(api.OpJump, n/2*3))
	}
	codes["tests that are led on one by one"] = [2][]api.Instr{append(l, apply, fail), append(want, apply, fail)}
	return codes
}

// TestCostly: P19.2: it ends, soon.
func TestCostly(t *testing.T) {
	for what, x := range costly() {
		checkLong(t, what, 3, x[0], x[1])
	}
}

// TestMaxInstrs: P19.1: a table of MaxInstrs instructions, all of which cost much, and one of one more.
func TestMaxInstrs(t *testing.T) {
	t.Parallel()
	for what, x := range costly() {
		small, want := one(3, nil), one(3, nil)
		small.Globals, want.Globals = nil, nil
		for i, all := 0, 0; all+len(x[0]) <= api.MaxInstrs; i, all = i+1, all+len(x[0]) {
			name := fmt.Sprint("f", i)
			small.Globals = append(small.Globals, api.Global{Name: name, Arity: 3, Code: x[0]})
			want.Globals = append(want.Globals, api.Global{Name: name, Arity: 3, Code: x[1]})
		}
		soon(t, "very often "+what, func() {
			if got := peeped(t, small); !alike(got, want) {
				t.Error(what, shown(got))
			}
		})
	}
	full := one(3, filled(nil, []api.Instr{in(api.OpPop)}, []api.Instr{in(api.OpFail, 1)}))
	for i := 1; i < api.MaxInstrs/api.MaxCode; i++ {
		full.Globals = append(full.Globals, full.Globals[0])
		full.Globals[i].Name = fmt.Sprint("f", i)
	}
	for _, g := range peeped(t, full).Globals {
		if len(g.Code) != 1 {
			t.Error(shown(api.Table{Globals: []api.Global{g}}))
		}
	}
	full.Globals = append(full.Globals, api.Global{Name: "one more", Code: []api.Instr{in(api.OpFail, 1)}})
	checkError(t, "a table of too many instructions", full, api.ErrBig)
}

// TestMaxGlobals: P19.1: tables of MaxGlobals globals and shapes, and of one more.
func TestMaxGlobals(t *testing.T) {
	x, want := one(0, nil), one(0, nil)
	x.Globals, want.Globals = nil, nil
	for i := range api.MaxGlobals {
		g := api.Global{Name: fmt.Sprint("f", i), Arity: i % 25, Code: []api.Instr{in(api.OpGlobal, i), in(api.OpPop, 1), in(api.OpFail, 1+i%4)}}
		x.Globals = append(x.Globals, g)
		g.Code = g.Code[2:]
		want.Globals = append(want.Globals, g)
	}
	if got := peeped(t, x); !alike(got, want) {
		t.Error(shown(got))
	}
	more := clone(x)
	more.Globals = append(more.Globals, api.Global{Name: "g", Code: []api.Instr{in(api.OpFail, 1)}})
	checkError(t, "too many globals", more, api.ErrBig)
	for len(x.Shapes) < api.MaxGlobals {
		x.Shapes = append(x.Shapes, api.Shape{Name: fmt.Sprint("C", len(x.Shapes)), Fields: len(x.Shapes) % 9})
	}
	want.Shapes = x.Shapes
	if got := peeped(t, x); !alike(got, want) {
		t.Error(shown(got))
	}
	x.Shapes = append(x.Shapes, api.Shape{Name: "C"})
	checkError(t, "too many shapes", x, api.ErrBig)
}
