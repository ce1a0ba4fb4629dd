package code

import (
	"bytes"

	"sloth/api"
)

// numberBytes is how many bytes of seven bits the greatest number has, which is 2^63 - 1.
const numberBytes = 9

// byteReader reads a table's bytes from the left.
type byteReader struct {
	rest []byte
	left int // how many instructions there may still be
}

// newByteReader is at what stands between the mark and the sum.
func newByteReader(b []byte) *byteReader {
	end := len(b) - sumBytes
	if end < 0 || !bytes.Equal(sumOf(b[:end]), b[end:]) {
		giveUp(api.ErrCodeBytes)
	}
	rest, ok := bytes.CutPrefix(b[:end], []byte(mark))
	if !ok {
		giveUp(api.ErrCodeBytes)
	}
	return &byteReader{rest: rest, left: api.MaxInstrs}
}

func (r *byteReader) table() api.Table {
	var t api.Table
	for range r.count(api.MaxGlobals) {
		t.Shapes = append(t.Shapes, api.Shape{Name: r.name(), Fields: r.number()})
	}
	for range r.count(api.MaxGlobals) {
		t.Globals = append(t.Globals, api.Global{Name: r.name(), Arity: r.number(), Code: r.code()})
	}
	if len(r.rest) > 0 {
		giveUp(api.ErrCodeBytes)
	}
	return t
}

func (r *byteReader) code() []api.Instr {
	l := make([]api.Instr, r.count(min(api.MaxCode, r.left)))
	r.left -= len(l)
	for i := range l {
		op := r.number()
		if !isOp(op) {
			giveUp(api.ErrCodeBytes)
		}
		l[i] = instrOf(op, r.numberOf)
	}
	return l
}

func (r *byteReader) numberOf(kind int) int {
	n := r.number()
	if kind == integer {
		return unfolded(n)
	}
	return n
}

// count reads how many things follow. Each of them has a byte at least.
func (r *byteReader) count(most int) int {
	n := r.number()
	if n > min(most, len(r.rest)) {
		giveUp(api.ErrCodeBytes)
	}
	return n
}

// number reads a number, which must have as few bytes as there can be.
func (r *byteReader) number() int {
	n := 0
	for i := range min(numberBytes, len(r.rest)) {
		b := r.rest[i]
		n |= int(b%128) << (7 * i)
		if b == 0 && i > 0 {
			break
		}
		if b < 128 {
			r.rest = r.rest[i+1:]
			return n
		}
	}
	giveUp(api.ErrCodeBytes)
	return 0
}

func (r *byteReader) name() string {
	n := r.count(api.MaxName)
	name := string(r.rest[:n])
	r.rest = r.rest[n:]
	return name
}
