package code_test

import (
	"fmt"
	"math"
	"math/rand"
	"slices"
	"strings"
	"testing"

	"sloth/api"
	"sloth/code"
)

// maker makes right tables at random.
type maker struct {
	*rand.Rand
	table api.Table
}

func newMaker(seed int64) *maker { return &maker{Rand: rand.New(rand.NewSource(seed))} }

// name is a name that none of a list is.
func (m *maker) name(ahead []string) string {
	for {
		b := make([]byte, 1+m.Intn(6))
		for i := range b {
			b[i] = `abfgNil"\ ()~!0-.`[m.Intn(17)]
		}
		if !slices.Contains(ahead, string(b)) {
			return string(b)
		}
	}
}

func (m *maker) make() api.Table {
	m.table = api.Table{Shapes: shapes()}
	var names []string
	for _, s := range m.table.Shapes {
		names = append(names, s.Name)
	}
	for range m.Intn(4) {
		names = append(names, m.name(names))
		m.table.Shapes = append(m.table.Shapes, api.Shape{Name: names[len(names)-1], Fields: m.Intn(9)})
	}
	names = nil
	for range m.Intn(5) {
		names = append(names, m.name(names))
	}
	for _, name := range names {
		m.table.Globals = append(m.table.Globals, api.Global{Name: name, Arity: m.Intn(5)})
	}
	for i := range m.table.Globals {
		m.table.Globals[i].Code = m.code(m.table.Globals[i].Arity + 1)
	}
	return m.table
}

// waiting: an instruction does not know as yet where it jumps to; it comes there with a depth.
type waiting struct{ at, depth int }

// code makes a code, at whose first instruction the depth is known.
func (m *maker) code(depth int) []api.Instr {
	var l []api.Instr
	var open []waiting
	left := m.Intn(25)
	for {
		// some of those that wait with this depth jump here
		open = slices.DeleteFunc(open, func(w waiting) bool {
			if w.depth != depth || m.Intn(3) == 0 {
				return false
			}
			lead(l, w.at, len(l))
			return true
		})
		x, behind := m.instr(depth, left <= 0)
		if l = append(l, x); x.Op == api.OpJump || x.Op == api.OpTestCon || x.Op == api.OpTestInt {
			open = append(open, waiting{len(l) - 1, behind})
		}
		depth = behind
		left--
		if x.Op == api.OpJump || x.Op == api.OpFail || x.Op == api.OpUnwind {
			if len(open) == 0 {
				return l
			}
			k := m.Intn(len(open))
			depth = open[k].depth
			lead(l, open[k].at, len(l))
			open = slices.Delete(open, k, k+1)
		}
	}
}

// lead sets where a jump or a test leads.
func lead(l []api.Instr, at, to int) {
	if l[at].Op == api.OpJump {
		l[at].A = to
	} else {
		l[at].B = to
	}
}

func (m *maker) integer() int {
	switch m.Intn(6) {
	case 0:
		return []int{api.MinInt, api.MaxInt, api.MinInt + 1, api.MaxInt - 1, 0, -1, 63, 64, -64, -65}[m.Intn(10)]
	case 1:
		return int(m.Int63()>>m.Intn(62)) - 1<<62
	}
	return m.Intn(400) - 200
}

// instr makes an instruction that may stand at a depth, with the depth behind it; one that ends, or leads to an end, if that is wanted.
func (m *maker) instr(depth int, end bool) (api.Instr, int) {
	for {
		op := 1 + m.Intn(17)
		f := plainForms[op]
		x := api.Instr{Op: op}
		switch f.a {
		case "0 and up":
			x.A = m.Intn(6)
		case "1 and up":
			x.A = 1 + m.Intn(5)
		case "MinInt to MaxInt":
			x.A = m.integer()
		case "a constructor":
			x.A = m.Intn(len(m.table.Shapes))
		case "a global":
			x.A = m.Intn(len(m.table.Globals))
		case "ArithAdd to ArithGe":
			x.A = 1 + m.Intn(11)
		case "1 to 4":
			x.A = 1 + m.Intn(4)
		}
		fields := 0
		if f.a == "a constructor" {
			fields = m.table.Shapes[x.A].Fields
		}
		if f.needs != nil && !f.needs(depth, x.A, fields) || end && f.behind != nil && op != api.OpPop {
			continue
		}
		if f.behind == nil {
			return x, depth
		}
		return x, f.behind(depth, x.A, fields)
	}
}

// some numbers with which things are spoilt.
var spoilers = []int{0, 1, -1, 2, 3, 4, 5, 6, 7, 8, 9, 10, 11, 12, 13, 17, 18, 24, 25, 7990, 7999, 8000, 8001, api.MaxInt, api.MaxInt + 1, api.MinInt, api.MinInt - 1, math.MaxInt, math.MinInt}

// spoil changes something in a table, most often to something wrong.
func (m *maker) spoil(t *api.Table) {
	n := spoilers[m.Intn(len(spoilers))]
	if m.Intn(8) == 0 || len(t.Globals) == 0 {
		m.spoilNames(t, n)
		return
	}
	g := &t.Globals[m.Intn(len(t.Globals))]
	if len(g.Code) == 0 {
		g.Code = []api.Instr{{Op: n, A: 1}}
		return
	}
	i := m.Intn(len(g.Code))
	switch m.Intn(9) {
	case 0:
		g.Code[i].Op = n
	case 1:
		g.Code[i].A = n
	case 2:
		g.Code[i].B = n
	case 3:
		g.Code[i].A += m.Intn(3) - 1
	case 4:
		g.Code[i].B += m.Intn(3) - 1
	case 5:
		g.Code = slices.Delete(g.Code, i, i+1)
	case 6:
		x, _ := m.instr(3, false)
		g.Code = slices.Insert(g.Code, i, x)
	case 7:
		g.Code = g.Code[:i]
	case 8:
		k := m.Intn(len(g.Code))
		g.Code[i], g.Code[k] = g.Code[k], g.Code[i]
	}
}

func (m *maker) spoilNames(t *api.Table, n int) {
	name := []string{"", "\x1f", "a\x7f", "é", "f", "Nil", long(api.MaxName), long(api.MaxName + 1)}[m.Intn(8)]
	switch i := m.Intn(len(t.Shapes)); m.Intn(7) {
	case 0:
		t.Shapes[i].Name = name
	case 1:
		t.Shapes[i].Fields = n
	case 2:
		t.Shapes = append(t.Shapes, t.Shapes[i])
	case 3:
		t.Shapes = slices.Delete(t.Shapes, i, i+1)
		if len(t.Shapes) == 0 {
			t.Shapes = shapes()
		}
	default:
		t.Globals = append(t.Globals, api.Global{Name: name, Arity: n, Code: m.code(3)})
	}
}

// TestRandomCheck: P17.1: tables made at random, right ones and such with something spoilt, against the second form.
func TestRandomCheck(t *testing.T) {
	count := map[api.Errno]int{}
	for seed := range int64(6000) {
		m := newMaker(seed)
		x := m.make()
		checkTable(t, fmt.Sprint(x), x, api.OK)
		if e := plainCheck(x); e != api.OK {
			t.Fatalf("the second form says %v of %v", e, x)
		}
		for range 12 {
			y := clone(x)
			m.table = y // as many shapes and globals as there are
			if len(m.table.Globals) == 0 {
				m.table.Globals = manyGlobals(1)
			}
			for range 1 + m.Intn(3) {
				m.spoil(&y)
			}
			want := plainCheck(y)
			count[want]++
			checkTable(t, fmt.Sprint(y), y, want)
		}
		if t.Failed() {
			t.Fatal("seed", seed)
		}
	}
	for _, e := range []api.Errno{api.OK, api.ErrCodeName, api.ErrCodeStack, api.ErrCodeFlow} {
		if count[e] < 3000 {
			t.Error("the test is wrong:", count)
		}
	}
}

// TestRandomTexts: P17.3: texts with something changed, against the second form.
func TestRandomTexts(t *testing.T) {
	words := append(strings.Fields(`shape global push glob int pop slide apply update alloc pack split eval arith jump testcon testint fail unwind + - == <= 0 1 -1 01 -0 4611686018427387903 4611686018427387904 -4611686018427387904 -4611686018427387905 "f" "Nil" "a\"" "\\" "" "(" ( ) " \ x`), " ", "\n", "\t", "\x00", "\x7f", `" "`)
	count := map[api.Errno]int{}
	for seed := range int64(2500) {
		m := newMaker(seed)
		text := printed(t, m.make())
		for range 12 {
			s := text
			for range 1 + m.Intn(3) {
				i := m.Intn(len(s) + 1)
				k := min(i+m.Intn(4), len(s))
				word := words[m.Intn(len(words))]
				switch m.Intn(5) {
				case 0:
					s = s[:i] + word + s[i:]
				case 1:
					s = s[:i] + s[k:]
				case 2:
					s = s[:i] + word + s[k:]
				default: // a whole piece gives place to another
					pieces := plainPiece.FindAllStringIndex(s, -1)
					if len(pieces) > 0 {
						p := pieces[m.Intn(len(pieces))]
						s = s[:p[0]] + word + s[p[1]:]
					}
				}
			}
			want, e := plainRead(s)
			count[e]++
			x, f := code.Read(s)
			if f != e || !alike(x, want) {
				t.Fatalf("Read(%q): %v, %v, want %v, %v", s, x, f, want, e)
			}
		}
	}
	if count[api.OK] < 2000 || count[api.ErrCodeText] < 2000 {
		t.Error("the test is wrong:", count)
	}
}

// checkLoadPlain: Load answers what the second form does.
func checkLoadPlain(t *testing.T, what string, b []byte) api.Errno {
	t.Helper()
	want, e := plainLoad(b)
	checkLoad(t, what, b, e)
	if x, _ := code.Load(b); !alike(x, want) {
		t.Errorf("Load(%s): %v, want %v", what, x, want)
	}
	return e
}

// TestRandomBytes: P17.6: bytes with something changed and a right sum, against the second form.
func TestRandomBytes(t *testing.T) {
	count := map[api.Errno]int{}
	for seed := range int64(3000) {
		m := newMaker(seed)
		b := packed(t, m.make())
		body := b[:len(b)-4]
		for range 20 {
			c := slices.Clone(body)
			for range 1 + m.Intn(2) {
				i := m.Intn(len(c))
				if m.Intn(2) == 0 && len(c) > 50 { // behind the shapes
					i = 50 + m.Intn(len(c)-50)
				}
				n := byte(m.Intn(256))
				if m.Intn(2) == 0 {
					n = byte(m.Intn(20))
				}
				switch m.Intn(6) {
				case 0:
					c = slices.Insert(c, i, n)
				case 1:
					c = slices.Delete(c, i, i+1)
				case 2:
					c = append(c, n)
				case 3:
					c[i] ^= 128
				default:
					c[i] = n
				}
			}
			count[checkLoadPlain(t, fmt.Sprint(c), withSum(c))]++
		}
		if t.Failed() {
			t.Fatal("seed", seed)
		}
	}
	if count[api.OK] < 1500 || count[api.ErrCodeBytes] < 1500 {
		t.Error("the test is wrong:", count)
	}
}
