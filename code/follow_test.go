package code_test

import (
	"bytes"
	"fmt"
	"slices"
	"strings"
	"testing"

	"sloth/api"
	"sloth/code"
)

// TestThereAndBack: P17.4, P17.5, P17.7: tables made at random, as texts and as bytes.
func TestThereAndBack(t *testing.T) {
	for seed := range int64(4000) {
		m := newMaker(seed)
		x := m.make()
		s := printed(t, x)
		if s != plainPrint(x) {
			t.Fatalf("Print: %s\nwant %s", s, plainPrint(x))
		}
		if y := read(t, s); !alike(x, y) {
			t.Fatalf("Read of Print: %v, want %v", y, x)
		}
		loose := m.loose(s)
		if y := read(t, loose); !alike(x, y) || printed(t, y) != s {
			t.Fatalf("Read(%s): %v, want %v", loose, y, x)
		}
		b := packed(t, x)
		if !bytes.Equal(b, plainBytes(x)) {
			t.Fatalf("Bytes: %v\nwant %v", b, plainBytes(x))
		}
		y := loaded(t, b)
		if !alike(x, y) || !bytes.Equal(packed(t, y), b) {
			t.Fatalf("Load of Bytes: %v, want %v", y, x)
		}
	}
}

// loose is a text with other blanks.
func (m *maker) loose(s string) string {
	var b strings.Builder
	pieces := plainPiece.FindAllString(s, -1)
	for i, p := range pieces {
		b.WriteString(p)
		need := 1
		if i+1 == len(pieces) || p[0] == '"' || pieces[i+1][0] == '"' {
			need = 0
		}
		for range need + m.Intn(3)*m.Intn(2) {
			b.WriteByte(" \t\n\r"[m.Intn(4)])
		}
	}
	return b.String()
}

// TestReadTold: P17.7: what Read takes and Check does not, is what the second form reads; Print of two texts of one table is one.
func TestReadTold(t *testing.T) {
	for _, pair := range [][2]string{
		{`global "f" 0 glob "g" fail 1 global "g" 0 unwind`, "global\"f\"0 glob\"g\"fail 1\n\n\nglobal\r\"g\"\t0 unwind\n"},
		{`shape "\"" 1 global "(" 1 testcon "\"" 1 fail 2`, "shape\"\\\"\"1 global\"(\"1 testcon\"\\\"\"1\tfail\r2 "},
	} {
		a, b := printed(t, read(t, seven+pair[0])), printed(t, read(t, seven+pair[1]))
		if a != b {
			t.Errorf("%s\n%s", a, b)
		}
	}
}

// TestTurnedAtRandom: P17.8: bytes of tables made at random, with a byte turned, cut off, put behind.
func TestTurnedAtRandom(t *testing.T) {
	for seed := range int64(1500) {
		m := newMaker(seed)
		b := packed(t, m.make())
		for range 20 {
			c := slices.Clone(b)
			c[m.Intn(len(c))] ^= byte(1 + m.Intn(255))
			checkLoad(t, fmt.Sprint(c, " of ", b), c, api.ErrCodeBytes)
			checkLoad(t, "cut off", b[:m.Intn(len(b))], api.ErrCodeBytes)
			more := make([]byte, 1+m.Intn(20))
			m.Read(more)
			checkLoad(t, "put behind", append(slices.Clone(b), more...), api.ErrCodeBytes)
		}
		if t.Failed() {
			t.Fatal("seed", seed)
		}
	}
}

// root is the node that is being worked out; all others are above it.
const root = -1

// act does with a stack, whose top is its last, what the chapter says that an instruction does.
func act(t *testing.T, x api.Instr, shapes []api.Shape, stack []int) []int {
	t.Helper()
	n := len(stack)
	take := func(k int) {
		if k > len(stack) {
			t.Fatalf("%v at the depth %d", x, n)
		}
		stack = stack[:len(stack)-k]
	}
	put := func(node int) { stack = append(stack, node) }
	switch x.Op {
	case api.OpPush:
		put(stack[n-1-x.A])
	case api.OpGlobal, api.OpInt:
		put(x.Op)
	case api.OpPop:
		take(x.A)
	case api.OpSlide:
		top := stack[n-1]
		take(x.A + 1)
		put(top)
	case api.OpApply, api.OpArith:
		take(2)
		put(x.Op)
	case api.OpUpdate:
		_ = stack[n-1-x.A]
		take(1)
	case api.OpAlloc:
		for range x.A {
			put(x.Op)
		}
	case api.OpPack:
		take(shapes[x.A].Fields)
		put(x.Op)
	case api.OpSplit:
		take(1)
		for range shapes[x.A].Fields {
			put(x.Op)
		}
	case api.OpEval, api.OpTestCon, api.OpTestInt:
		_ = stack[n-1]
	}
	if len(stack) == 0 || stack[0] != root {
		t.Fatalf("%v takes the root away", x)
	}
	return stack
}

// TestEveryWay: P17.9: whatever way jumps and tests take through a right code: it ends behind no more instructions than it has; each instruction has one depth, at most MaxCode; the root stays.
func TestEveryWay(t *testing.T) {
	for seed := range int64(4000) {
		m := newMaker(seed)
		x := m.make()
		for range 4 {
			y := clone(x)
			if len(y.Globals) > 0 {
				m.spoil(&y)
			}
			if code.Check(y) == api.OK {
				x = y
			}
		}
		for _, g := range x.Globals {
			depths := map[int]int{}
			for range 12 {
				m.way(t, x, g, depths)
			}
		}
	}
	deep := one(0, in(api.OpAlloc, 7999), in(api.OpTestInt, 1, 3), in(api.OpJump, 4), in(api.OpEval), in(api.OpSlide, 7998), in(api.OpUpdate, 1), in(api.OpUnwind))
	checkTable(t, "deep", deep, api.OK)
	newMaker(1).way(t, deep, deep.Globals[0], map[int]int{})
}

// way goes one way through a code, by chance at each test.
func (m *maker) way(t *testing.T, x api.Table, g api.Global, depths map[int]int) {
	t.Helper()
	stack := []int{root}
	for i := range g.Arity {
		stack = append(stack, i)
	}
	at := 0
	for range len(g.Code) {
		in := g.Code[at]
		if d, seen := depths[at]; seen && d != len(stack) || len(stack) > api.MaxCode {
			t.Fatalf("%v: %d is reached with the depths %d and %d", g, at, d, len(stack))
		}
		depths[at] = len(stack)
		stack = act(t, in, x.Shapes, stack)
		switch in.Op {
		case api.OpUnwind:
			if len(stack) != 1 {
				t.Fatalf("%v: it ends at %d with the depth %d", g, at, len(stack))
			}
			return
		case api.OpFail:
			return
		}
		to := plainTo(at, in)
		at = to[m.Intn(len(to))]
		if at >= len(g.Code) {
			t.Fatalf("%v goes on at %d", g, at)
		}
	}
	t.Fatalf("%v does not end", g)
}

// roomy is a table in whose lists there is spare room, with something in it.
func roomy(x api.Table) api.Table {
	y := api.Table{Shapes: append(slices.Clone(x.Shapes), api.Shape{Name: "spare", Fields: 7})[:len(x.Shapes)], Globals: append(slices.Clone(x.Globals), api.Global{Name: "spare"})[:len(x.Globals)]}
	for i := range y.Globals {
		c := y.Globals[i].Code
		y.Globals[i].Code = append(slices.Clone(c), in(99, 98, 97))[:len(c)]
	}
	return y
}

// isSpared tells whether what stands in the spare room is still there.
func isSpared(y api.Table) bool {
	ok := y.Shapes[:len(y.Shapes)+1][len(y.Shapes)] == api.Shape{Name: "spare", Fields: 7} && y.Globals[:len(y.Globals)+1][len(y.Globals)].Name == "spare"
	for _, g := range y.Globals {
		ok = ok && g.Code[:len(g.Code)+1][len(g.Code)] == in(99, 98, 97)
	}
	return ok
}

// overwrite writes over all of a table's lists, their spare room too.
func overwrite(x api.Table) {
	for i := range x.Globals {
		c := x.Globals[i].Code
		c = c[:cap(c)]
		for k := range c {
			c[k] = in(77, 77, 77)
		}
	}
	g := x.Globals[:cap(x.Globals)]
	for i := range g {
		g[i] = api.Global{Name: "over"}
	}
	s := x.Shapes[:cap(x.Shapes)]
	for i := range s {
		s[i] = api.Shape{Name: "over"}
	}
}

// checkApart: no two lists of a table share memory, spare room too: one is written over, the others stay.
func checkApart(t *testing.T, x api.Table) {
	t.Helper()
	for i := range x.Globals {
		before := clone(x)
		c := x.Globals[i].Code[:cap(x.Globals[i].Code)]
		for k := range c {
			c[k] = in(66, 66, 66)
		}
		before.Globals[i].Code = slices.Clone(x.Globals[i].Code)
		if !alike(before, x) {
			t.Fatalf("the code of global %d is another one's too", i)
		}
	}
}

// TestMemory: W2, W3, W6: what is handed in stays as it is, its spare room too; the same asked twice is the same, though what was answered was written over.
func TestMemory(t *testing.T) {
	for seed := range int64(600) {
		x := newMaker(seed).make()
		y := roomy(x)
		s, b := printed(t, y), packed(t, y)
		if e := code.Check(y); e != api.OK || !alike(x, y) || !isSpared(y) {
			t.Fatalf("%v: %v", e, y)
		}
		kept := slices.Clone(b)
		given := append(slices.Clone(b), 55)[:len(b)]
		u, v := read(t, s), loaded(t, given)
		if !bytes.Equal(given, kept) || given[:len(b)+1][len(b)] != 55 {
			t.Fatal("Load changed what it was given")
		}
		for i := range given {
			given[i] = 0
		}
		if !alike(u, x) || !alike(v, x) {
			t.Fatalf("%v or %v, want %v", u, v, x)
		}
		checkApart(t, clone(u))
		u2, v2 := read(t, s), loaded(t, kept)
		checkApart(t, u2)
		checkApart(t, v2)
		overwrite(u)
		overwrite(v)
		overwrite(u2)
		overwrite(v2)
		all := b[:cap(b)]
		for i := range all {
			all[i] = 1
		}
		if !alike(read(t, s), x) || !alike(loaded(t, kept), x) || !bytes.Equal(packed(t, y), kept) || printed(t, y) != s || !alike(x, y) {
			t.Fatalf("asked again: %v", x)
		}
	}
}

// TestEmptyLists: W5: a nil list and an empty one are the same.
func TestEmptyLists(t *testing.T) {
	for _, x := range []api.Table{{Shapes: shapes()}, {Shapes: shapes(), Globals: []api.Global{}}} {
		checkTable(t, "no globals", x, api.OK)
		if b := packed(t, x); string(b[:len(b)-4]) != sevenBytes+"\x00" || printed(t, x) != seven {
			t.Error(b)
		}
	}
	for _, x := range []api.Table{{}, {Shapes: []api.Shape{}}, {Shapes: []api.Shape{}, Globals: []api.Global{}}} {
		checkTable(t, "nothing", x, api.ErrCodeName)
	}
	checkTable(t, "no code", one(0), api.ErrCodeFlow)
	checkTable(t, "an empty code", one(0, []api.Instr{}...), api.ErrCodeFlow)
}
