package code_test

import (
	"bytes"
	"fmt"
	"slices"
	"testing"

	"sloth/api"
)

// sevenBytes is how the bytes of a table begin that has the seven shapes alone.
const sevenBytes = "SLTH\x07\x05False\x00\x04True\x00\x04Unit\x00\x03Nil\x00\x04Cons\x02\x04Pair\x02\x06Triple\x03"

// TestEmptyBytes: P17.5: the table without globals, with its sum.
func TestEmptyBytes(t *testing.T) {
	b := packed(t, api.Table{Shapes: shapes()})
	if want := withSum([]byte(sevenBytes + "\x00")); !bytes.Equal(b, want) {
		t.Errorf("%v, want %v", b, want)
	}
	if x := loaded(t, b); !alike(x, api.Table{Shapes: shapes()}) {
		t.Error(x)
	}
}

// TestSum: P17.5: the sum by the chapter's words, bit by bit.
func TestSum(t *testing.T) {
	b := packed(t, wholeTable())
	register := uint32(0xFFFFFFFF)
	for _, x := range b[:len(b)-4] {
		register = register&0xFFFFFF00 | uint32(byte(register)^x)
		for range 8 {
			one := register%2 == 1
			register /= 2
			if one {
				register ^= 0xEDB88320
			}
		}
	}
	for i := range 4 {
		if want := byte(^register >> (8 * i)); b[len(b)-4+i] != want {
			t.Errorf("byte %d of the sum: %d, want %d", i, b[len(b)-4+i], want)
		}
	}
}

// TestInstrBytes: P17.5: each instruction with its numbers.
func TestInstrBytes(t *testing.T) {
	const behind = 12
	for _, x := range []struct {
		in   api.Instr
		want []byte
	}{
		{in(api.OpPush, 11), []byte{1, 11}}, {in(api.OpGlobal, 1), []byte{2, 1}}, {in(api.OpInt, 0), []byte{3, 0}}, {in(api.OpPop, 10), []byte{4, 10}}, {in(api.OpSlide, 0), []byte{5, 0}}, {in(api.OpApply), []byte{6}}, {in(api.OpUpdate, 9), []byte{7, 9}}, {in(api.OpAlloc, 127), []byte{8, 127}}, {in(api.OpAlloc, 128), []byte{8, 128, 1}}, {in(api.OpAlloc, 300), []byte{8, 172, 2}}, {in(api.OpAlloc, 7988), []byte{8, 180, 62}},
		{in(api.OpPack, 4), []byte{9, 4}}, {in(api.OpSplit, 6), []byte{10, 6}}, {in(api.OpEval), []byte{11}}, {in(api.OpArith, 1), []byte{12, 1}}, {in(api.OpArith, 11), []byte{12, 11}}, {in(api.OpJump, behind), []byte{13, behind}}, {in(api.OpTestCon, 5, behind), []byte{14, 5, behind}}, {in(api.OpTestInt, -1, behind), []byte{15, 1, behind}}, {in(api.OpTestInt, 64, behind), []byte{15, 128, 1, behind}},
		{in(api.OpInt, 1), []byte{3, 2}}, {in(api.OpInt, -1), []byte{3, 1}}, {in(api.OpInt, -2), []byte{3, 3}}, {in(api.OpInt, 63), []byte{3, 126}}, {in(api.OpInt, -64), []byte{3, 127}}, {in(api.OpInt, 64), []byte{3, 128, 1}}, {in(api.OpInt, -65), []byte{3, 129, 1}}, {in(api.OpInt, 8191), []byte{3, 254, 127}}, {in(api.OpInt, -8192), []byte{3, 255, 127}}, {in(api.OpInt, 8192), []byte{3, 128, 128, 1}},
		{in(api.OpInt, api.MaxInt), []byte{3, 254, 255, 255, 255, 255, 255, 255, 255, 127}}, {in(api.OpInt, api.MinInt), []byte{3, 255, 255, 255, 255, 255, 255, 255, 255, 127}}, {in(api.OpTestInt, api.MinInt, behind), []byte{15, 255, 255, 255, 255, 255, 255, 255, 255, 127, behind}}, {in(api.OpTestInt, api.MaxInt, behind), []byte{15, 254, 255, 255, 255, 255, 255, 255, 255, 127, behind}},
	} {
		y := one(0, append(repeat(11, in(api.OpInt, 5)), x.in, in(api.OpFail, 4))...)
		y.Globals = append(y.Globals, global("gg", 24))
		want := []byte(sevenBytes + "\x02\x01f\x00\x0d")
		want = append(want, bytes.Repeat([]byte{3, 10}, 11)...)
		want = append(want, x.want...)
		want = append(want, 16, 4, 2, 'g', 'g', 24, 1, 16, 1)
		b := packed(t, y)
		if !bytes.Equal(b, withSum(want)) {
			t.Errorf("%v: %v, want %v", x.in, b, withSum(want))
		}
		if z := loaded(t, b); !alike(y, z) {
			t.Errorf("%v: %v", x.in, z)
		}
	}
	b := packed(t, one(0, in(api.OpUnwind)))
	if want := withSum([]byte(sevenBytes + "\x01\x01f\x00\x01\x11")); !bytes.Equal(b, want) {
		t.Errorf("unwind: %v, want %v", b, want)
	}
}

// TestLengthBytes: P17.5: lengths, counts and jumps of one, two and three bytes.
func TestLengthBytes(t *testing.T) {
	for n, want := range map[int][]byte{1: {1}, 127: {127}, 128: {128, 1}, 129: {129, 1}, 4095: {255, 31}, 4096: {128, 32}} {
		x := api.Table{Shapes: shapes(api.Shape{Name: long(n), Fields: 8}), Globals: []api.Global{global(long(n), 1)}}
		w := append([]byte("SLTH\x08"), sevenBytes[5:]...)
		w = append(append(append(w, want...), long(n)...), 8, 1)
		w = append(append(append(w, want...), long(n)...), 1, 1, 16, 1)
		if b := packed(t, x); !bytes.Equal(b, withSum(w)) || !alike(loaded(t, b), x) {
			t.Errorf("a name of %d bytes: %s", n, short(fmt.Sprint(b)))
		}
	}
	for n, want := range map[int][]byte{127: {127}, 128: {128, 1}, 2000: {208, 15}} {
		b := packed(t, api.Table{Shapes: manyShapes(n - 7), Globals: manyGlobals(n)})
		if !bytes.HasPrefix(b, append([]byte("SLTH"), want...)) || !bytes.Contains(b, append(want, 2, 'g', '0', 0, 1, 16, 1)) {
			t.Errorf("%d of them: %s", n, short(fmt.Sprint(b)))
		}
	}
	for n, want := range map[int][]byte{127: {127}, 128: {128, 1}, 8000: {192, 62}} {
		b := packed(t, one(1, evals(n)...))
		if !bytes.HasPrefix(b, append([]byte(sevenBytes+"\x01\x01f\x01"), append(want, 11)...)) {
			t.Errorf("%d of them: %s", n, short(fmt.Sprint(b)))
		}
	}
	b := packed(t, one(1, append([]api.Instr{in(api.OpTestInt, 0, 7998)}, evals(7999)...)...))
	if !bytes.Contains(b, []byte{15, 0, 190, 62, 11}) {
		t.Error(short(fmt.Sprint(b)))
	}
}

// TestTurned: P17.8: each byte turned to each other one; bytes cut off; bytes put behind.
func TestTurned(t *testing.T) {
	for _, x := range []api.Table{{Shapes: shapes()}, one(0, in(api.OpInt, -2), in(api.OpUpdate, 1), in(api.OpUnwind)), wholeTable(), base()} {
		b := packed(t, x)
		for i := range b {
			for turn := 1; turn < 256; turn++ {
				c := slices.Clone(b)
				c[i] ^= byte(turn)
				checkLoad(t, fmt.Sprint("byte ", i, " turned by ", turn), c, api.ErrCodeBytes)
			}
			checkLoad(t, fmt.Sprint("the first ", i), b[:i], api.ErrCodeBytes)
			if i != len(b)-4 {
				checkLoad(t, fmt.Sprint("the first ", i, " with their sum"), withSum(b[:i]), api.ErrCodeBytes)
			}
		}
		for n := range 256 {
			checkLoad(t, fmt.Sprint(n, " put behind"), append(slices.Clone(b), byte(n)), api.ErrCodeBytes)
			checkLoad(t, fmt.Sprint(n, " put behind the last global"), withSum(append(slices.Clone(b[:len(b)-4]), byte(n))), api.ErrCodeBytes)
		}
		for what, more := range map[string][]byte{"itself": b, "its sum": b[len(b)-4:], "noughts": make([]byte, 100)} {
			checkLoad(t, what+" put behind", append(slices.Clone(b), more...), api.ErrCodeBytes)
		}
		checkLoad(t, "with a sum of all", withSum(b), api.ErrCodeBytes)
		checkLoad(t, "without its first byte", withSum(b[1:len(b)-4]), api.ErrCodeBytes)
	}
	checkLoad(t, "none", nil, api.ErrCodeBytes)
	for n := range 12 {
		checkLoad(t, fmt.Sprint(n, " noughts"), make([]byte, n), api.ErrCodeBytes)
		checkLoad(t, fmt.Sprint(n, " noughts with their sum"), withSum(make([]byte, n)), api.ErrCodeBytes)
	}
}

// numberPlaces tells where the numbers stand in the bytes of the table base, whose numbers are all of one byte.
func numberPlaces(t *testing.T, b []byte) []int {
	t.Helper()
	var l []int
	at := 4
	number := func() int {
		l = append(l, at)
		at++
		return int(b[at-1])
	}
	name := func() { at += number() }
	for n := number(); n > 0; n-- {
		name()
		number()
	}
	for n := number(); n > 0; n-- {
		name()
		number()
		for k := number(); k > 0; k-- {
			f := plainForms[number()]
			for _, what := range []string{f.a, f.b} {
				if what != "" {
					number()
				}
			}
		}
	}
	if at != len(b)-4 {
		t.Fatal("the test is wrong:", at, "of", len(b))
	}
	return l
}

// TestNumberBytes: P17.5, P17.6: a number with more bytes than it needs, each number in its turn; one that is too great; one that is cut off.
func TestNumberBytes(t *testing.T) {
	b := packed(t, base())
	body := b[:len(b)-4]
	l := numberPlaces(t, b)
	if len(l) < 60 {
		t.Fatal("the test is wrong:", len(l), "numbers")
	}
	put := func(at int, with ...byte) []byte {
		return withSum(slices.Concat(body[:at], with, body[at+1:]))
	}
	if !bytes.Equal(put(l[0], body[l[0]]), b) {
		t.Fatal("the test is wrong")
	}
	for _, at := range l {
		n := body[at]
		for more := range 12 {
			with := append([]byte{n | 128}, bytes.Repeat([]byte{128}, more)...)
			checkLoad(t, fmt.Sprint("the number at ", at, " with ", more, " noughts more"), put(at, append(with, 0)...), api.ErrCodeBytes)
			checkLoadPlain(t, fmt.Sprint("the number at ", at, " with ", more, " noughts and a one"), put(at, append(with, 1)...))
			checkLoad(t, fmt.Sprint("the number at ", at, " with ", more, " noughts, nought and ", n), put(at, append(with, 0, n)...), api.ErrCodeBytes)
			checkLoad(t, fmt.Sprint("the number at ", at, " that does not end"), withSum(append(slices.Clone(body[:at]), with...)), api.ErrCodeBytes)
			checkLoadPlain(t, fmt.Sprint("the number at ", at, " as great as ", more), put(at, append(bytes.Repeat([]byte{255}, more), 127)...))
		}
	}
	huge := one(0, in(api.OpInt, api.MinInt), in(api.OpFail, 1))
	c := packed(t, huge)
	at := len(sevenBytes) + 6
	if c[at-1] != api.OpInt || c[at+8] != 127 {
		t.Fatal("the test is wrong:", c)
	}
	for _, last := range [][]byte{{255}, {255, 0}, {255, 1}, {127, 0}, {128}, {128, 1}, {128, 0}, {255, 127}, {255, 255, 1}, {0}, {}} {
		d := withSum(slices.Concat(c[:at+8], last, c[at+9:len(c)-4]))
		checkLoad(t, fmt.Sprint("nine bytes, the last ", last), d, api.ErrCodeBytes)
	}
	checkLoad(t, "nine bytes", withSum(slices.Concat(c[:at+8], []byte{1}, c[at+9:len(c)-4])), api.OK)
}

// TestWrongBytes: P17.6: bytes with a right sum that are no table's.
func TestWrongBytes(t *testing.T) {
	b := []byte(sevenBytes)
	for what, more := range map[string][]byte{
		"the number of globals is missing": {}, "a global is missing": {1}, "two globals, one there": {2, 1, 'f', 0, 1, 16, 1}, "one global, two there": {1, 1, 'f', 0, 1, 16, 1, 1, 'g', 0, 1, 16, 1}, "no global, one there": {0, 1, 'f', 0, 1, 16, 1},
		"a name that reaches beyond the end": {1, 20, 'f', 0, 1, 16, 1}, "a very long name": {1, 255, 255, 255, 255, 255, 255, 255, 255, 127, 'f', 0, 1, 16, 1}, "an empty name": {1, 0, 0, 1, 16, 1}, "a name with a byte 31": {1, 1, 31, 0, 1, 16, 1}, "with a byte 127": {1, 1, 127, 0, 1, 16, 1}, "with a byte 255": {1, 1, 255, 0, 1, 16, 1}, "a name twice": {2, 1, 'f', 0, 1, 16, 1, 1, 'f', 0, 1, 16, 1},
		"an Arity of 25": {1, 1, 'f', 25, 1, 16, 1}, "a great Arity": {1, 1, 'f', 255, 255, 255, 255, 255, 255, 255, 255, 127, 1, 16, 1}, "no instruction": {1, 1, 'f', 0, 0}, "an instruction too few": {1, 1, 'f', 0, 2, 16, 1}, "one too many": {1, 1, 'f', 0, 1, 16, 1, 16, 1}, "very many": {1, 1, 'f', 0, 255, 255, 255, 255, 255, 255, 255, 255, 127, 16, 1}, "more than MaxCode": {1, 1, 'f', 0, 193, 62, 16, 1},
		"very many globals": {255, 255, 255, 255, 255, 255, 255, 255, 127, 1, 'f', 0, 1, 16, 1}, "more than MaxGlobals": {209, 15, 1, 'f', 0, 1, 16, 1},
		"Op 0": {1, 1, 'f', 0, 1, 0}, "Op 18": {1, 1, 'f', 0, 1, 18}, "a great Op": {1, 1, 'f', 0, 1, 255, 255, 255, 255, 255, 255, 255, 255, 127}, "Op 0 ahead": {1, 1, 'f', 0, 2, 0, 16, 1}, "Op 18 ahead": {1, 1, 'f', 0, 2, 18, 16, 1}, "an Op without its number": {1, 1, 'f', 0, 1, 16}, "without its second number": {1, 1, 'f', 0, 3, 3, 0, 16, 1, 15, 0},
		"fail 5": {1, 1, 'f', 0, 1, 16, 5}, "fail 0": {1, 1, 'f', 0, 1, 16, 0}, "no depth": {1, 1, 'f', 0, 2, 3, 0, 17}, "no flow": {1, 1, 'f', 0, 2, 17, 17}, "a jump to itself": {1, 1, 'f', 0, 1, 13, 0}, "a shape that is not there": {1, 1, 'f', 0, 2, 9, 7, 16, 1}, "a great shape": {1, 1, 'f', 0, 2, 9, 255, 255, 255, 255, 255, 255, 255, 255, 127, 16, 1}, "a global that is not there": {1, 1, 'f', 0, 2, 2, 1, 16, 1}, "arith 0": {1, 1, 'f', 2, 2, 12, 0, 16, 1}, "arith 12": {1, 1, 'f', 2, 2, 12, 12, 16, 1}, "a great alloc": {1, 1, 'f', 0, 2, 8, 255, 255, 255, 255, 255, 255, 255, 255, 127, 16, 1}, "update 0": {1, 1, 'f', 1, 2, 7, 0, 16, 1},
		"a number that no instruction has": {1, 1, 'f', 0, 1, 17, 0}, "both numbers of one that has one": {1, 1, 'f', 0, 1, 16, 1, 0}, "a blank behind": {0, 32}, "a nought behind": {1, 1, 'f', 0, 1, 16, 1, 0},
	} {
		checkLoad(t, what, withSum(append(slices.Clone(b), more...)), api.ErrCodeBytes)
	}
	checkLoad(t, "a right one", withSum([]byte(sevenBytes+"\x01\x01f\x00\x01\x10\x01")), api.OK)
	for what, s := range map[string]string{
		"no mark": sevenBytes[4:] + "\x00", "half a mark": "SL" + sevenBytes[4:] + "\x00", "another mark": "SLOB" + sevenBytes[4:] + "\x00", "a small mark": "slth" + sevenBytes[4:] + "\x00", "the mark twice": "SLTH" + sevenBytes + "\x00", "something ahead": " " + sevenBytes + "\x00",
		"nothing": "", "the mark": "SLTH", "no shapes": "SLTH\x00\x00", "shapes alone": "SLTH\x07", "six shapes": "SLTH\x06" + sevenBytes[5:len(sevenBytes)-8] + "\x00", "six, but seven there": "SLTH\x06" + sevenBytes[5:] + "\x00", "eight": "SLTH\x08" + sevenBytes[5:] + "\x00", "very many": "SLTH\xff\xff\xff\xff\xff\xff\xff\xff\x7f" + sevenBytes[5:] + "\x00",
		"a shape with 9 fields": "SLTH\x08" + sevenBytes[5:] + "\x01A\x09\x00", "Cons with 3": "SLTH\x07" + string(bytes.Replace([]byte(sevenBytes[5:]), []byte("Cons\x02"), []byte("Cons\x03"), 1)) + "\x00", "a shape twice": "SLTH\x08" + sevenBytes[5:] + "\x03Nil\x00\x00", "a shape of a long name": "SLTH\x08" + sevenBytes[5:] + "\x81\x20" + long(4097) + "\x00\x00",
	} {
		checkLoad(t, what, withSum([]byte(s)), api.ErrCodeBytes)
	}
	checkLoad(t, "eight shapes", withSum([]byte("SLTH\x08"+sevenBytes[5:]+"\x01A\x08\x00")), api.OK)
	checkLoad(t, "a shape of a long name", withSum([]byte("SLTH\x08"+sevenBytes[5:]+"\x80\x20"+long(4096)+"\x00\x00")), api.OK)
}

// TestGreatCounts: W1, P17.6: counts that promise more than may be, or than there is, cost no memory.
func TestGreatCounts(t *testing.T) {
	many := slices.Concat([]byte(sevenBytes), []byte{1, 1, 'f', 0, 255, 255, 255, 3}, bytes.Repeat([]byte{17}, api.MaxCodeText-200))
	var each []byte
	for i := range 1000 {
		each = slices.Concat(each, fmt.Appendf(nil, "\x04%04d\x00\xc0\x3e", i), bytes.Repeat([]byte{17}, 8000))
	}
	for what, b := range map[string][]byte{
		"8 million instructions":            many,
		"1000 globals of 8000 instructions": slices.Concat([]byte(sevenBytes+"\xd0\x0f"), each),
		"very many shapes":                  slices.Concat([]byte("SLTH\xff\xff\x7f"), bytes.Repeat([]byte{1, 'A', 0}, 1<<21)),
		"very many globals":                 slices.Concat([]byte(sevenBytes+"\xff\xff\x7f"), bytes.Repeat([]byte{1, 'f', 0, 1, 17}, 1<<20)),
	} {
		b = withSum(b)
		if n := spent(func() { checkLoad(t, what, b, api.ErrCodeBytes) }); n > 1<<25 {
			t.Errorf("%s: %d bytes", what, n)
		}
	}
}
