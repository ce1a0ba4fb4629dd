package peep_test

import (
	"fmt"
	"slices"
	"strings"
	"testing"

	"sloth/api"
)

// TestExamples: P19.1: those of the chapter.
func TestExamples(t *testing.T) {
	for _, x := range []struct {
		arity             int
		code, want, rules string
	}{
		{0, "push 0 pop 1 int 1 update 1 unwind", "int 1 update 1 unwind", "8@0 2@0"},
		{0, "int 3 eval eval update 1 unwind", "int 3 update 1 unwind", "10@0 10@0"},
		{0, "int 1 int 2 slide 1 slide 0 update 1 unwind", "int 1 int 2 slide 1 update 1 unwind", "6@2"},
		{0, "int 5 testint 4 5 pop 1 int 0 jump 5 update 1 unwind", "int 5 update 1 unwind", "12@0 1@2 1@2 1@2 3@1"},
		{0, "int 5 testint 5 3 jump 4 jump 4 update 1 unwind", "int 5 update 1 unwind", "11@0 1@2 3@1"},
		{1, `push 0 eval testcon "Nil" 5 pop 1 jump 6 pop 1 int 1 update 2 pop 1 unwind`, "", ""},
	} {
		if x.want == "" {
			x.want = x.code
		}
		checkCode(t, x.arity, instrs(t, x.code), instrs(t, x.want), x.rules)
	}
}

// byRule are codes of a global with three arguments, what they become, and by which rules at which places.
var byRule = []struct{ code, want, rules string }{
	// 1
	{"int 5 testint 4 4 int 7 fail 2 apply fail 1", "int 5 apply fail 1", "12@0 1@2 1@2 3@1"},
	{"int 1 testint 1 4 apply fail 2 apply fail 3", "int 1 apply fail 2", "11@0 1@3 1@3"},
	{`pack "Nil" testcon "Nil" 3 fail 2 fail 3`, `pack "Nil" fail 2`, "11@0 1@2"},
	// 2
	{"pop 0 fail 1", "fail 1", "2@0"},
	{"slide 0 fail 1", "fail 1", "2@0"},
	{"alloc 0 fail 1", "fail 1", "2@0"},
	{"pop 0 slide 0 alloc 0 pop 0 fail 1", "fail 1", "2@0 2@0 2@0 2@0"},
	{"alloc 1 alloc 1 fail 1", "alloc 1 alloc 1 fail 1", ""},
	{"push 0 int 0 apply fail 1", "push 0 int 0 apply fail 1", ""},
	{"testint 0 2 eval pop 0 apply fail 1", "testint 0 2 eval apply fail 1", "2@2"},
	{"testint 1 3 testint 2 5 eval pop 0 jump 6 eval apply fail 1", "testint 1 5 testint 2 4 eval jump 5 eval apply fail 1", "2@3 5@0"},
	// 3
	{"jump 1 fail 1", "fail 1", "3@0"},
	{"jump 1 jump 2 apply fail 1", "apply fail 1", "3@0 3@0"},
	{"testint 1 2 jump 2 apply fail 1", "testint 1 1 apply fail 1", "3@1"},
	{"testint 1 2 jump 3 pop 0 apply fail 1", "testint 1 1 apply fail 1", "2@2 3@1"},
	// 4
	{"testint 1 2 jump 3 fail 3 fail 2", "testint 1 2 fail 2 fail 3", "4@1 1@3"},
	{"testint 1 2 jump 3 eval fail 2", "testint 1 2 fail 2 eval fail 2", "4@1"},
	{"testint 1 3 testint 2 5 jump 4 eval jump 6 eval apply fail 1", "testint 1 3 testint 2 5 jump 6 eval jump 6 eval apply fail 1", "4@2"},
	{"testint 1 3 pop 3 jump 6 update 2 pop 2 jump 6 unwind", "testint 1 3 pop 3 unwind update 2 pop 2 unwind", "4@2 3@5"},
	// 5
	{"testint 1 3 testint 2 4 fail 2 jump 5 eval apply fail 1", "testint 1 4 testint 2 3 fail 2 eval apply fail 1", "5@0 1@3"},
	{`testcon "Cons" 3 testcon "A" 4 fail 2 jump 5 eval apply fail 1`, `testcon "Cons" 4 testcon "A" 3 fail 2 eval apply fail 1`, "5@0 1@3"},
	{"testint 1 2 eval fail 1", "testint 1 2 eval fail 1", ""},
	{"testint 1 2 fail 2 fail 1", "testint 1 2 fail 2 fail 1", ""},
	// 6
	{"pop 1 pop 2 fail 1", "pop 3 fail 1", "6@0"},
	{"slide 2 slide 0 fail 1", "slide 2 fail 1", "6@0"},
	{"slide 1 slide 1 fail 1", "slide 2 fail 1", "6@0"},
	{"pop 1 pop 0 pop 1 fail 1", "pop 2 fail 1", "6@0 6@0"},
	{"pop 1 slide 1 fail 1", "pop 1 slide 1 fail 1", ""},
	{"alloc 2 alloc 3 fail 1", "alloc 2 alloc 3 fail 1", ""},
	// 7
	{"slide 1 pop 1 fail 1", "pop 2 fail 1", "7@0"},
	{"slide 2 pop 0 fail 1", "slide 2 fail 1", "2@1"},
	{"slide 1 slide 1 pop 1 fail 1", "pop 3 fail 1", "6@0 7@0"},
	{"slide 1 pop 1 pop 1 fail 1", "pop 3 fail 1", "7@0 6@0"},
	// 8
	{"push 2 pop 3 fail 1", "pop 2 fail 1", "8@0"},
	{"push 3 pop 1 fail 1", "fail 1", "8@0 2@0"},
	{`glob "f" pop 2 fail 1`, "pop 1 fail 1", "8@0"},
	{`glob "f" pop 0 fail 1`, `glob "f" fail 1`, "2@1"},
	{"push 1 push 1 pop 1 fail 1", "push 1 fail 1", "8@1 2@1"},
	{"push 1 push 1 pop 2 fail 1", "fail 1", "8@1 8@0 2@0"},
	{"int 1 pop 1 fail 1", "int 1 pop 1 fail 1", ""},
	{"alloc 1 pop 1 fail 1", "alloc 1 pop 1 fail 1", ""},
	// 9
	{"push 0 slide 1 fail 1", "fail 1", "9@0"},
	{"push 1 slide 1 fail 1", "push 1 slide 1 fail 1", ""},
	{"push 0 slide 2 fail 1", "push 0 slide 2 fail 1", ""},
	{`glob "f" slide 1 fail 1`, `glob "f" slide 1 fail 1`, ""},
	{"push 0 push 0 slide 1 slide 1 fail 1", "fail 1", "9@1 9@0"},
	{"push 0 slide 1 slide 1 fail 1", "slide 1 fail 1", "9@0"},
	{"push 0 slide 1 pop 1 pop 1 fail 1", "pop 2 fail 1", "9@0 6@0"},
	// 10
	{"push 0 eval eval fail 1", "push 0 eval fail 1", "10@1"},
	{"int 1 eval fail 1", "int 1 fail 1", "10@0"},
	{`pack "Cons" eval fail 1`, `pack "Cons" fail 1`, "10@0"},
	{"arith + eval fail 1", "arith + fail 1", "10@0"},
	{"eval eval eval eval fail 1", "eval fail 1", "10@0 10@0 10@0"},
	{`split "A" eval fail 1`, `split "A" eval fail 1`, ""},
	{"apply eval slide 1 eval fail 1", "apply eval slide 1 eval fail 1", ""},
	{"pop 1 eval glob \"f\" eval alloc 1 eval fail 1", "pop 1 eval glob \"f\" eval alloc 1 eval fail 1", ""},
	// 11
	{"int -7 testint -7 3 fail 2 fail 3", "int -7 fail 2", "11@0 1@2"},
	{`pack "Triple" testcon "Triple" 3 eval fail 3`, `pack "Triple" fail 3`, "11@0 10@0"},
	// 12
	{"int 1 testint 2 3 eval apply fail 2", "int 1 apply fail 2", "12@0 1@2 3@1"},
	{`pack "A" testcon "Nil" 3 eval eval fail 1`, `pack "A" fail 1`, "12@0 1@2 3@1 10@0"},
	{`pack "Nil" testint 3 3 eval apply fail 1`, `pack "Nil" testint 3 3 eval apply fail 1`, ""},
	{`int 3 testcon "Nil" 3 eval apply fail 1`, `int 3 testcon "Nil" 3 eval apply fail 1`, ""},
	// two rules at one place: the least number first
	{"slide 0 pop 1 fail 1", "pop 1 fail 1", "2@0"},
	{"pop 0 pop 0 fail 1", "fail 1", "2@0 2@0"},
	{"testint 1 2 jump 2 fail 1", "testint 1 1 fail 1", "3@1"},
	// a lesser place with a greater number
	{"int 1 eval pop 0 fail 1", "int 1 fail 1", "10@0 2@1"},
	{"push 0 slide 1 jump 3 slide 0 fail 1", "fail 1", "9@0 3@0 2@0"},
	{"int 1 testint 2 4 pop 0 fail 2 alloc 0 apply fail 1", "int 1 apply fail 1", "12@0 1@2 1@2 3@1 2@1"},
	// a rule fits once what jumped to y is gone
	{"int 1 testint 1 3 jump 4 jump 4 eval fail 1", "int 1 fail 1", "11@0 1@2 3@1 10@0"},
}

// shifted is a code with others ahead of it.
func shifted(l []api.Instr, ahead ...api.Instr) []api.Instr {
	l = slices.Clone(l)
	for i, x := range l {
		switch x.Op {
		case api.OpJump:
			l[i].A += len(ahead)
		case api.OpTestCon, api.OpTestInt:
			l[i].B += len(ahead)
		}
	}
	return slices.Concat(ahead, l)
}

// TestByRule: P19.1: each rule by hand, at the first place and behind others.
func TestByRule(t *testing.T) {
	for _, x := range byRule {
		l, want := instrs(t, x.code), instrs(t, x.want)
		checkCode(t, 3, l, want, x.rules)
		for n := 1; n < 4 && !strings.Contains(x.code, "unwind"); n++ { // an Unwind asks for the root alone
			ahead := slices.Repeat([]api.Instr{in(api.OpAlloc, 2)}, n)
			var rules []string
			for _, s := range strings.Fields(x.rules) {
				var d deed
				fmt.Sscanf(s, "%d@%d", &d.rule, &d.place)
				rules = append(rules, deed{d.rule, d.place + n}.String())
			}
			checkCode(t, 3, shifted(l, ahead...), shifted(want, ahead...), strings.Join(rules, " "))
		}
	}
}

// TestJumpedTo: P19.1: no rule that speaks of y fits where y is jumped to, by a jump or by a test.
func TestJumpedTo(t *testing.T) {
	for _, x := range []struct{ pair, other string }{ // other brings the stack to the depth that it has ahead of y
		{"pop 1 pop 1", "apply"}, {"slide 1 slide 1", "apply"}, {"slide 1 pop 1", "apply"},
		{"push 0 pop 1", "alloc 1"}, {`glob "f" pop 1`, "alloc 1"}, {"push 0 slide 1", "alloc 1"},
		{"eval eval", `split "A"`}, {"int 1 eval", "alloc 1"}, {`pack "Nil" eval`, "alloc 1"}, {"arith * eval", "apply"},
		{"int 1 testint 1 7", "alloc 1"}, {`pack "Nil" testcon "Nil" 7`, "alloc 1"},
		{"int 1 testint 2 7", "alloc 1"}, {`pack "Nil" testcon "Unit" 7`, "alloc 1"},
	} {
		pair, other := instrs(t, x.pair), instrs(t, x.other)[0]
		end := []api.Instr{in(api.OpAlloc, 1), in(api.OpApply), in(api.OpEval), in(api.OpFail, 1)}
		byJump := slices.Concat([]api.Instr{in(api.OpTestInt, 90, 3), other, in(api.OpJump, 4)}, pair, end)
		checkCode(t, 5, byJump, byJump, "")
		if y := &pair[1]; y.B > 0 {
			y.B++
		}
		byTest := slices.Concat([]api.Instr{in(api.OpTestInt, 90, 4), other, in(api.OpTestInt, 91, 5), in(api.OpFail, 1)}, pair, end)
		checkCode(t, 5, byTest, byTest, "")
	}
}

// TestRows: P19.1: tests that lead to jumps, which lead to jumps in rows: each is led to the end of its row, one by one.
func TestRows(t *testing.T) {
	for n := 1; n < 25; n++ {
		for step := 1; step < 4; step++ {
			got, deeds := checkPlain(t, one(3, rows(n, step)))
			count := map[int]int{}
			for _, d := range deeds {
				count[d.rule]++
			}
			if l := got.Globals[0].Code; count[5] < n || len(l) != n+2 {
				t.Errorf("%d jumps, each %d on: %v\n%s", n, step, deeds, shown(got))
			}
		}
	}
}

// rows is n tests, then n jumps, to each of which one of the tests leads, and which lead so many places on, to the end at most.
func rows(n, step int) []api.Instr {
	var l []api.Instr
	for i := range n {
		l = append(l, in(api.OpTestInt, i, n+i))
	}
	for i := range n {
		l = append(l, in(api.OpJump, min(2*n, n+i+step)))
	}
	return append(l, in(api.OpApply), in(api.OpFail, 1))
}

// TestGlobals: P19.1: each global by itself; shapes, names and Arities stay.
func TestGlobals(t *testing.T) {
	x := table(t, `shape "B" 8 global "f" 0 int 3 eval update 1 unwind global "g" 1 push 0 update 2 pop 1 unwind global "h" 24 glob "g" pop 1 fail 2 global "i" 0 fail 1`)
	want := table(t, `shape "B" 8 global "f" 0 int 3 update 1 unwind global "g" 1 push 0 update 2 pop 1 unwind global "h" 24 fail 2 global "i" 0 fail 1`)
	if got, _ := checkPlain(t, x); !alike(got, want) {
		t.Error(shown(got))
	}
	for _, x := range []api.Table{one(0, nil), {Shapes: one(0, nil).Shapes[:7]}} {
		x.Globals = nil
		if got := peeped(t, x); !alike(got, x) {
			t.Error(shown(got))
		}
	}
}
