package peep_test

import (
	"fmt"
	"math/rand"
	"slices"
	"testing"

	"sloth/api"
	"sloth/code"
)

// maker makes right tables at random, in whose codes rules often fit.
type maker struct {
	*rand.Rand
	table api.Table
	long  int // how many instructions a code has, or a few more
	wild  int // of so many instructions, one is any that may stand there
	tame  int // of so many jumps that wait, one comes to its place where it can
	kinds []kind
}

// kind is what is known of a node on the stack.
type kind int

const (
	unknown kind = iota
	number
	con
)

func pick[T any](r *rand.Rand, l ...T) T { return l[r.Intn(len(l))] }

// many hands on makers with a table each, till something fails.
func many(t *testing.T, seed int64, times int, do func(*maker)) {
	t.Helper()
	r := rand.New(rand.NewSource(seed))
	for range times {
		m := &maker{Rand: r, long: pick(r, 5, 15, 15, 40, 40, 120), wild: pick(r, 2, 4, 30), tame: pick(r, 2, 3, 8)}
		m.make()
		if e := code.Check(m.table); e != api.OK {
			t.Fatal("the maker is wrong:", e)
		}
		if do(m); t.Failed() {
			return
		}
	}
}

func (m *maker) make() {
	m.table = one(0, nil)
	m.table.Globals = nil
	for range m.Intn(3) {
		m.table.Shapes = append(m.table.Shapes, api.Shape{Name: fmt.Sprint("C", len(m.table.Shapes)), Fields: m.Intn(4)})
	}
	for i := range 1 + m.Intn(4) {
		m.table.Globals = append(m.table.Globals, api.Global{Name: fmt.Sprint("g", i), Arity: m.Intn(4)})
	}
	for i := range m.table.Globals {
		m.table.Globals[i].Code = m.code(m.table.Globals[i].Arity)
	}
}

// waiting is a jump or a test that does not lead anywhere yet, and the stack with which it comes there.
type waiting struct {
	at    int
	kinds []kind
}

// code makes the code of a global.
func (m *maker) code(arity int) []api.Instr {
	var l []api.Instr
	var open []waiting
	m.kinds = make([]kind, arity+1)
	for left := m.long/2 + m.Intn(m.long); ; left-- {
		open = slices.DeleteFunc(open, func(w waiting) bool {
			if len(w.kinds) != len(m.kinds) || m.Intn(m.tame) > 0 {
				return false
			}
			l[w.at] = toward(l[w.at], len(l))
			m.meet(w.kinds)
			return true
		})
		var x api.Instr
		if left > 0 {
			x = m.instr()
		} else {
			x = m.ending(len(open))
		}
		l = append(l, x)
		m.does(x)
		if x.Op == api.OpJump || x.Op == api.OpTestCon || x.Op == api.OpTestInt {
			open = append(open, waiting{len(l) - 1, slices.Clone(m.kinds)})
		}
		if x.Op == api.OpJump || x.Op == api.OpFail || x.Op == api.OpUnwind {
			if len(open) == 0 {
				return l
			}
			k := m.Intn(len(open))
			l[open[k].at] = toward(l[open[k].at], len(l))
			m.kinds = open[k].kinds
			open = slices.Delete(open, k, k+1)
		}
	}
}

// toward is a jump or a test that leads elsewhere.
func toward(x api.Instr, to int) api.Instr {
	if x.Op == api.OpJump {
		x.A = to
	} else {
		x.B = to
	}
	return x
}

// meet is of two ways to one place: less is known there.
func (m *maker) meet(l []kind) {
	m.kinds = slices.Clone(m.kinds)
	for i := range l {
		if m.kinds[i] != l[i] {
			m.kinds[i] = unknown
		}
	}
}

// top tells what is known of a place of the stack.
func (m *maker) top(k int) kind { return m.kinds[len(m.kinds)-1-k] }

// does keeps what is known of the stack.
func (m *maker) does(x api.Instr) {
	d := len(m.kinds)
	m.kinds = slices.Clone(m.kinds)
	switch x.Op {
	case api.OpPush:
		m.kinds = append(m.kinds, m.top(x.A))
	case api.OpGlobal:
		m.kinds = append(m.kinds, unknown)
	case api.OpInt:
		m.kinds = append(m.kinds, number)
	case api.OpPop:
		m.kinds = m.kinds[:d-x.A]
	case api.OpSlide:
		m.kinds = slices.Delete(m.kinds, d-1-x.A, d-1)
	case api.OpApply:
		m.kinds = append(m.kinds[:d-2], unknown)
	case api.OpUpdate:
		m.kinds = m.kinds[:d-1]
	case api.OpAlloc:
		m.kinds = append(m.kinds, make([]kind, x.A)...)
	case api.OpPack:
		m.kinds = append(m.kinds[:d-m.table.Shapes[x.A].Fields], con)
	case api.OpSplit:
		m.kinds = append(m.kinds[:d-1], make([]kind, m.table.Shapes[x.A].Fields)...)
	case api.OpArith:
		m.kinds = append(m.kinds[:d-2], number)
		if x.A > api.ArithRem {
			m.kinds[d-2] = con
		}
	case api.OpTestCon:
		m.kinds[d-1] = con
	case api.OpTestInt:
		m.kinds[d-1] = number
	}
}

// ending ends a code, most often so that a machine goes on: with Update, Pop and Unwind.
func (m *maker) ending(open int) api.Instr {
	d := len(m.kinds)
	switch {
	case open > 0 && m.Intn(2) == 0:
		return in(api.OpJump, 0)
	case d == 1:
		return pick(m.Rand, in(api.OpUnwind), in(api.OpUnwind), in(api.OpUnwind), in(api.OpFail, 1+m.Intn(4)))
	case d == 2:
		return pick(m.Rand, in(api.OpUpdate, 1), in(api.OpUpdate, 1), in(api.OpPop, 1), in(api.OpFail, 2))
	}
	return pick(m.Rand, in(api.OpPop, d-2), in(api.OpSlide, d-2), in(api.OpPop, 1), in(api.OpSlide, 1), in(api.OpFail, 3))
}

func (m *maker) constructor(fields int) int {
	for {
		if n := m.Intn(len(m.table.Shapes)); m.table.Shapes[n].Fields <= fields {
			return n
		}
	}
}

// instr makes an instruction that may stand there.
func (m *maker) instr() api.Instr {
	d := len(m.kinds)
	if m.Intn(m.wild) > 0 {
		return m.sensible(d)
	}
	for {
		n := m.Intn(min(d, 4))
		switch op := 1 + m.Intn(15); op {
		case api.OpPush, api.OpPop:
			return in(op, n)
		case api.OpGlobal:
			return in(op, m.Intn(len(m.table.Globals)))
		case api.OpInt:
			return in(op, m.Intn(3))
		case api.OpJump:
			return in(op, 0)
		case api.OpAlloc:
			return in(op, m.Intn(3))
		case api.OpSlide, api.OpUpdate:
			if n > 0 {
				return in(op, n-1+op/api.OpUpdate)
			}
		case api.OpPack:
			return in(op, m.constructor(d-1))
		default:
			if x, ok := m.looks(op, d); ok {
				return x
			}
		}
	}
}

// looks is of the instructions that look at the stack.
func (m *maker) looks(op, d int) (api.Instr, bool) {
	switch op {
	case api.OpApply:
		return in(op), d > 2
	case api.OpArith:
		return in(op, 1+m.Intn(11)), d > 2
	case api.OpSplit:
		return in(op, m.Intn(len(m.table.Shapes))), d > 1
	case api.OpEval:
		return in(op), d > 1
	case api.OpTestCon:
		return in(op, m.Intn(len(m.table.Shapes))), d > 1
	case api.OpTestInt:
		return in(op, m.Intn(3)), d > 1
	}
	return api.Instr{}, false
}

// sensible makes an instruction that fits what is on the stack, and such as rules speak of.
func (m *maker) sensible(d int) api.Instr {
	if d > 6 {
		return pick(m.Rand, in(api.OpPop, 1+m.Intn(3)), in(api.OpSlide, 1+m.Intn(3)), in(api.OpPop), in(api.OpSlide))
	}
	if d > 1 && m.Intn(2) == 0 {
		switch m.top(0) {
		case number:
			if d > 2 && m.top(1) == number && m.Intn(2) == 0 {
				return in(api.OpArith, 1+m.Intn(11))
			}
			return pick(m.Rand, in(api.OpTestInt, m.Intn(3)), in(api.OpEval))
		case con:
			return pick(m.Rand, in(api.OpTestCon, m.Intn(len(m.table.Shapes))), in(api.OpTestCon, m.Intn(2)), in(api.OpEval))
		}
		return pick(m.Rand, in(api.OpEval), in(api.OpPop, m.Intn(2)), in(api.OpJump))
	}
	l := []api.Instr{in(api.OpPush, 0), in(api.OpPush, m.Intn(d)), in(api.OpGlobal, m.Intn(len(m.table.Globals))), in(api.OpInt, m.Intn(3)), in(api.OpInt, m.Intn(3)), in(api.OpAlloc), in(api.OpPop), in(api.OpSlide, m.Intn(d)/2), in(api.OpPack, m.constructor(min(2, d-1))), in(api.OpPack, m.constructor(0)), in(api.OpPop, m.Intn(min(d, 3))), in(api.OpJump)}
	if d < 2 {
		return pick(m.Rand, l[:6]...)
	}
	return pick(m.Rand, l...)
}

// TestRandom: P19.1, P19.2, P19.3: of tables made at random, against the second form.
func TestRandom(t *testing.T) {
	t.Parallel()
	count := map[int]int{}
	back, far := 0, 0 // how often the next place was one ahead, or far ahead
	many(t, 1, 4000, func(m *maker) {
		_, deeds := checkPlain(t, m.table)
		for i, d := range deeds {
			count[d.rule]++
			if i > 0 && d.place < deeds[i-1].place {
				back++
				if d.place < deeds[i-1].place-5 {
					far++
				}
			}
		}
	})
	t.Log(count, back, far)
	for rule := 1; rule <= 12; rule++ {
		if count[rule] < 300 {
			t.Error("too seldom: rule", rule)
		}
	}
	if back < 10000 || far < 1000 {
		t.Error("too seldom: back", back, far)
	}
}
