package code_test

import (
	"encoding/binary"
	"fmt"
	"hash/crc32"
	"regexp"
	"slices"
	"strconv"
	"strings"

	"sloth/api"
)

// This file says by the chapter's words, slowly, what the calls answer.

// form is a row of the chapter's table: what the numbers are; what is needed of the depth, with f the fields of A; the depth behind.
type form struct {
	word, a, b string
	needs      func(d, a, f int) bool
	behind     func(d, a, f int) int
}

var plainForms = map[int]form{
	api.OpPush:    {"push", "0 and up", "", func(d, a, f int) bool { return a < d }, func(d, a, f int) int { return d + 1 }},
	api.OpGlobal:  {"glob", "a global", "", nil, func(d, a, f int) int { return d + 1 }},
	api.OpInt:     {"int", "MinInt to MaxInt", "", nil, func(d, a, f int) int { return d + 1 }},
	api.OpPop:     {"pop", "0 and up", "", func(d, a, f int) bool { return a < d }, func(d, a, f int) int { return d - a }},
	api.OpSlide:   {"slide", "0 and up", "", func(d, a, f int) bool { return a < d-1 }, func(d, a, f int) int { return d - a }},
	api.OpApply:   {"apply", "", "", func(d, a, f int) bool { return d > 2 }, func(d, a, f int) int { return d - 1 }},
	api.OpUpdate:  {"update", "1 and up", "", func(d, a, f int) bool { return a < d }, func(d, a, f int) int { return d - 1 }},
	api.OpAlloc:   {"alloc", "0 and up", "", nil, func(d, a, f int) int { return int(min(uint64(d)+uint64(a), 1<<62)) }},
	api.OpPack:    {"pack", "a constructor", "", func(d, a, f int) bool { return f < d }, func(d, a, f int) int { return d - f + 1 }},
	api.OpSplit:   {"split", "a constructor", "", func(d, a, f int) bool { return d > 1 }, func(d, a, f int) int { return d - 1 + f }},
	api.OpEval:    {"eval", "", "", func(d, a, f int) bool { return d > 1 }, func(d, a, f int) int { return d }},
	api.OpArith:   {"arith", "ArithAdd to ArithGe", "", func(d, a, f int) bool { return d > 2 }, func(d, a, f int) int { return d - 1 }},
	api.OpJump:    {"jump", "an instruction", "", nil, func(d, a, f int) int { return d }},
	api.OpTestCon: {"testcon", "a constructor", "an instruction", func(d, a, f int) bool { return d > 1 }, func(d, a, f int) int { return d }},
	api.OpTestInt: {"testint", "MinInt to MaxInt", "an instruction", func(d, a, f int) bool { return d > 1 }, func(d, a, f int) int { return d }},
	api.OpFail:    {"fail", "1 to 4", "", nil, nil},
	api.OpUnwind:  {"unwind", "", "", func(d, a, f int) bool { return d == 1 }, nil},
}

var plainOperators = strings.Fields("+ - * / % == /= < <= > >=")

func plainBig(t api.Table) bool {
	all := 0
	for _, g := range t.Globals {
		if all += len(g.Code); len(g.Code) > 8000 {
			return true
		}
	}
	return len(t.Shapes) > 2000 || len(t.Globals) > 2000 || all > 200000
}

var plainName = regexp.MustCompile(`^[ -~]+$`)

func plainMayBe(name string, ahead []string) bool {
	return len(name) <= 4096 && plainName.MatchString(name) && !slices.Contains(ahead, name)
}

func plainNumber(t api.Table, what string, n int) bool {
	switch what {
	case "":
		return n == 0
	case "0 and up":
		return n >= 0
	case "1 and up":
		return n >= 1
	case "MinInt to MaxInt":
		return -1<<62 <= n && n < 1<<62
	case "a constructor":
		return n >= 0 && n < len(t.Shapes)
	case "a global":
		return n >= 0 && n < len(t.Globals)
	case "ArithAdd to ArithGe":
		return n >= 1 && n <= 11
	case "1 to 4":
		return n >= 1 && n <= 4
	}
	return what == "an instruction"
}

func plainCheck(t api.Table) api.Errno {
	if plainBig(t) {
		return api.ErrBig
	}
	var ahead []string
	for _, s := range t.Shapes {
		if !plainMayBe(s.Name, ahead) || s.Fields < 0 || s.Fields > 8 {
			return api.ErrCodeName
		}
		ahead = append(ahead, s.Name)
	}
	if len(t.Shapes) < 7 || fmt.Sprint(t.Shapes[:7]) != "[{False 0} {True 0} {Unit 0} {Nil 0} {Cons 2} {Pair 2} {Triple 3}]" {
		return api.ErrCodeName
	}
	ahead = nil
	for _, g := range t.Globals {
		if !plainMayBe(g.Name, ahead) || g.Arity < 0 || g.Arity > 24 {
			return api.ErrCodeName
		}
		ahead = append(ahead, g.Name)
	}
	for _, g := range t.Globals {
		if e := plainCode(t, g); e != api.OK {
			return e
		}
	}
	return api.OK
}

// plainTo tells to which instructions one goes on, the next one first.
func plainTo(i int, x api.Instr) []int {
	switch x.Op {
	case api.OpFail, api.OpUnwind:
		return nil
	case api.OpJump:
		return []int{x.A}
	case api.OpTestCon, api.OpTestInt:
		return []int{i + 1, x.B}
	}
	return []int{i + 1}
}

// arrival: an instruction is reached by one ahead with a depth.
type arrival struct{ to, depth int }

func plainCode(t api.Table, g api.Global) api.Errno {
	for i, x := range g.Code {
		f, ok := plainForms[x.Op]
		if !ok || !plainNumber(t, f.a, x.A) || !plainNumber(t, f.b, x.B) {
			return api.ErrCodeName
		}
		for what, n := range map[string]int{f.a + "A": x.A, f.b + "B": x.B} {
			if strings.HasPrefix(what, "an instruction") && (n <= i || n >= len(g.Code)) {
				return api.ErrCodeFlow
			}
		}
	}
	if len(g.Code) == 0 {
		return api.ErrCodeFlow
	}
	seen := []arrival{{0, g.Arity + 1}} // of all instructions ahead of the one that is looked at
	for i, x := range g.Code {
		at := slices.IndexFunc(seen, func(a arrival) bool { return a.to == i })
		if at < 0 {
			return api.ErrCodeFlow
		}
		d, fields, form := seen[at].depth, 0, plainForms[x.Op]
		if form.a == "a constructor" {
			fields = t.Shapes[x.A].Fields
		}
		if form.needs != nil && !form.needs(d, x.A, fields) {
			return api.ErrCodeStack
		}
		behind := 0
		if form.behind != nil {
			behind = form.behind(d, x.A, fields)
		}
		if behind > 8000 {
			return api.ErrCodeStack
		}
		to := plainTo(i, x)
		if slices.Contains(to, len(g.Code)) {
			return api.ErrCodeFlow
		}
		for _, n := range to {
			if slices.ContainsFunc(seen, func(a arrival) bool { return a.to == n && a.depth != behind }) {
				return api.ErrCodeStack
			}
		}
		for _, n := range to {
			seen = append(seen, arrival{n, behind})
		}
	}
	return api.OK
}

func plainQuoted(name string) string {
	return `"` + strings.ReplaceAll(strings.ReplaceAll(name, `\`, `\\`), `"`, `\"`) + `"`
}

// plainPrint writes a table whose numbers are right, whatever else it is.
func plainPrint(t api.Table) string {
	var b strings.Builder
	for _, s := range t.Shapes {
		fmt.Fprintf(&b, "shape %s %d\n", plainQuoted(s.Name), s.Fields)
	}
	for _, g := range t.Globals {
		fmt.Fprintf(&b, "global %s %d\n", plainQuoted(g.Name), g.Arity)
		for _, x := range g.Code {
			f := plainForms[x.Op]
			b.WriteString("  " + f.word)
			for _, n := range []struct {
				what string
				n    int
			}{{f.a, x.A}, {f.b, x.B}} {
				switch n.what {
				case "":
				case "a constructor":
					b.WriteString(" " + plainQuoted(t.Shapes[n.n].Name))
				case "a global":
					b.WriteString(" " + plainQuoted(t.Globals[n.n].Name))
				case "ArithAdd to ArithGe":
					b.WriteString(" " + plainOperators[n.n-1])
				default:
					fmt.Fprintf(&b, " %d", n.n)
				}
			}
			b.WriteString("\n")
		}
	}
	return b.String()
}

var (
	plainText  = regexp.MustCompile(`^(?:[ \t\n\r]+|[!#-~]+|"(?:[ !#-\[\]-~]|\\["\\])+")*$`)
	plainPiece = regexp.MustCompile(`[!#-~]+|"(?:[^"\\]|\\.)*"`)
	plainNum   = regexp.MustCompile(`^(?:0|-?[1-9][0-9]*)$`)
)

// plainReader takes pieces of a text from the left.
type plainReader struct {
	pieces []string
	bad    bool
}

func (r *plainReader) take() string {
	if len(r.pieces) == 0 {
		r.bad = true
		return "0"
	}
	s := r.pieces[0]
	r.pieces = r.pieces[1:]
	return s
}

func (r *plainReader) number() int {
	s := r.take()
	n, err := strconv.ParseInt(s, 10, 64)
	r.bad = r.bad || err != nil || !plainNum.MatchString(s) || n < -1<<62 || n >= 1<<62
	return int(n)
}

func (r *plainReader) name() string {
	s := r.take()
	if s[0] != '"' {
		r.bad = true
		return ""
	}
	s = strings.NewReplacer(`\"`, `"`, `\\`, `\`).Replace(s[1 : len(s)-1])
	r.bad = r.bad || len(s) > 4096
	return s
}

func plainRead(text string) (api.Table, api.Errno) {
	if len(text) > 1<<23 {
		return api.Table{}, api.ErrLong
	}
	if !plainText.MatchString(text) {
		return api.Table{}, api.ErrCodeText
	}
	r := &plainReader{pieces: plainPiece.FindAllString(text, -1)}
	var t api.Table
	var shapes, globals []string
	for len(r.pieces) > 0 && r.pieces[0] == "shape" {
		r.take()
		t.Shapes = append(t.Shapes, api.Shape{Name: r.name(), Fields: r.number()})
		shapes = append(shapes, t.Shapes[len(t.Shapes)-1].Name)
	}
	meant := map[arrival]string{} // the instruction of a global: which name it means
	for len(r.pieces) > 0 && !r.bad {
		switch word := r.take(); {
		case word == "global":
			t.Globals = append(t.Globals, api.Global{Name: r.name(), Arity: r.number()})
			globals = append(globals, t.Globals[len(t.Globals)-1].Name)
		case len(t.Globals) == 0:
			r.bad = true
		default:
			g := &t.Globals[len(t.Globals)-1]
			x, name := r.instr(word, shapes)
			if x.Op == api.OpGlobal {
				meant[arrival{len(t.Globals) - 1, len(g.Code)}] = name
			}
			g.Code = append(g.Code, x)
		}
	}
	for at, name := range meant {
		n := slices.Index(globals, name)
		r.bad = r.bad || n < 0
		t.Globals[at.to].Code[at.depth].A = n
	}
	switch {
	case r.bad:
		return api.Table{}, api.ErrCodeText
	case plainBig(t):
		return api.Table{}, api.ErrBig
	}
	return t, api.OK
}

// instr reads an instruction; where it means a global, its name.
func (r *plainReader) instr(word string, shapes []string) (x api.Instr, name string) {
	for op, f := range plainForms {
		if f.word == word {
			x.Op = op
		}
	}
	f := plainForms[x.Op]
	r.bad = r.bad || x.Op == 0
	switch f.a {
	case "":
	case "a constructor":
		x.A = slices.Index(shapes, r.name())
		r.bad = r.bad || x.A < 0
	case "a global":
		name = r.name()
	case "ArithAdd to ArithGe":
		x.A = slices.Index(plainOperators, r.take()) + 1
		r.bad = r.bad || x.A == 0
	default:
		x.A = r.number()
	}
	if f.b != "" {
		x.B = r.number()
	}
	return x, name
}

// withSum puts the sum of some bytes behind them.
func withSum(b []byte) []byte {
	return binary.LittleEndian.AppendUint32(slices.Clone(b), crc32.ChecksumIEEE(b))
}

// plainBytes writes a table whose numbers are right where they have a meaning, whatever else it is.
func plainBytes(t api.Table) []byte {
	b := []byte{83, 76, 84, 72}
	number := func(n int) { b = binary.AppendUvarint(b, uint64(n)) }
	name := func(s string) {
		number(len(s))
		b = append(b, s...)
	}
	number(len(t.Shapes))
	for _, s := range t.Shapes {
		name(s.Name)
		number(s.Fields)
	}
	number(len(t.Globals))
	for _, g := range t.Globals {
		name(g.Name)
		number(g.Arity)
		number(len(g.Code))
		for _, x := range g.Code {
			number(x.Op)
			f := plainForms[x.Op]
			switch f.a {
			case "":
			case "MinInt to MaxInt":
				b = binary.AppendVarint(b, int64(x.A)) // which folds numbers below 0 as the chapter does
			default:
				number(x.A)
			}
			if f.b != "" {
				number(x.B)
			}
		}
	}
	return withSum(b)
}

// plainLoad reads bytes: those of a table that plainCheck takes, and of which plainBytes makes the same bytes.
func plainLoad(b []byte) (api.Table, api.Errno) {
	if len(b) > 1<<23 {
		return api.Table{}, api.ErrLong
	}
	var t api.Table
	ok := len(b) >= 4
	rest := b[min(4, len(b)):]
	number := func() int {
		n, k := binary.Uvarint(rest)
		if k <= 0 || n > 1<<63-1 {
			ok, k, n = false, 0, 0
		}
		rest = rest[k:]
		return int(n)
	}
	name := func() string {
		n := number()
		if n > len(rest) {
			ok, n = false, 0
		}
		s := string(rest[:n])
		rest = rest[n:]
		return s
	}
	for n := number(); ok && n > 0; n-- {
		t.Shapes = append(t.Shapes, api.Shape{Name: name(), Fields: number()})
	}
	for n := number(); ok && n > 0; n-- {
		g := api.Global{Name: name(), Arity: number()}
		for k := number(); ok && k > 0; k-- {
			x := api.Instr{Op: number()}
			f, known := plainForms[x.Op]
			ok = ok && known
			if f.a == "MinInt to MaxInt" {
				n := number()
				x.A = n / 2
				if n%2 == 1 {
					x.A = -(n / 2) - 1
				}
			} else if f.a != "" {
				x.A = number()
			}
			if f.b != "" {
				x.B = number()
			}
			g.Code = append(g.Code, x)
		}
		t.Globals = append(t.Globals, g)
	}
	if !ok || plainCheck(t) != api.OK || !slices.Equal(plainBytes(t), b) {
		return api.Table{}, api.ErrCodeBytes
	}
	return t, api.OK
}
