package code

import "sloth/api"

// mark stands ahead of a table's bytes.
const mark = "SLTH"

// sumBytes is how many bytes the sum has, which stands behind them.
const sumBytes = 4

// sumOf is the usual CRC of 32 bits, the lowest byte first.
func sumOf(b []byte) []byte {
	register := ^uint32(0)
	for _, x := range b {
		register ^= uint32(x)
		for range 8 {
			fallen := register & 1
			register >>= 1
			if fallen == 1 {
				register ^= 0xEDB88320
			}
		}
	}
	register = ^register
	return []byte{byte(register), byte(register >> 8), byte(register >> 16), byte(register >> 24)}
}

// folded puts numbers below 0 between those from 0 on.
func folded(n int) int {
	if n < 0 {
		return -2*(n+1) + 1
	}
	return 2 * n
}

// unfolded is the number of which folded makes this one.
func unfolded(n int) int {
	if n%2 != 0 {
		return -(n / 2) - 1
	}
	return n / 2
}

// byteWriter writes a right table.
type byteWriter struct {
	bytes []byte
}

func (w *byteWriter) table(t api.Table) {
	w.bytes = append(w.bytes, mark...)
	w.number(len(t.Shapes))
	for _, s := range t.Shapes {
		w.name(s.Name)
		w.number(s.Fields)
	}
	w.number(len(t.Globals))
	for _, g := range t.Globals {
		w.name(g.Name)
		w.number(g.Arity)
		w.number(len(g.Code))
		for _, x := range g.Code {
			w.number(x.Op)
			eachNumber(x, w.numberOf)
		}
	}
	w.bytes = append(w.bytes, sumOf(w.bytes)...)
}

func (w *byteWriter) numberOf(kind, n int) {
	if kind == integer {
		n = folded(n)
	}
	w.number(n)
}

// number writes a number from 0 on.
func (w *byteWriter) number(n int) {
	for n >= 128 {
		w.bytes = append(w.bytes, byte(n%128+128))
		n /= 128
	}
	w.bytes = append(w.bytes, byte(n))
}

func (w *byteWriter) name(name string) {
	w.number(len(name))
	w.bytes = append(w.bytes, name...)
}
