package code

import (
	"strconv"

	"sloth/api"
)

// textWriter writes a right table line by line. Once there are more bytes than may be, it writes no more instructions: these alone could make very many, since each of them may tell a long name.
type textWriter struct {
	shapes  []api.Shape
	globals []api.Global
	text    []byte
}

func (w *textWriter) isFull() bool { return len(w.text) > api.MaxCodeText }

func (w *textWriter) table() {
	for _, s := range w.shapes {
		w.told("shape", s.Name, s.Fields)
	}
	for _, g := range w.globals {
		w.told("global", g.Name, g.Arity)
		for _, x := range g.Code {
			w.instr(x)
		}
	}
}

// told writes the line that tells a constructor or a global.
func (w *textWriter) told(word, name string, n int) {
	w.put(word)
	w.name(name)
	w.number(n)
	w.put("\n")
}

func (w *textWriter) instr(x api.Instr) {
	if w.isFull() {
		return
	}
	w.put("  ")
	w.put(rows[x.Op].word)
	eachNumber(x, w.numberOf)
	w.put("\n")
}

// numberOf writes a number of an instruction, by its name, where it has one.
func (w *textWriter) numberOf(kind, n int) {
	switch kind {
	case shape:
		w.name(w.shapes[n].Name)
	case global:
		w.name(w.globals[n].Name)
	case operator:
		w.put(" ")
		w.put(operators[n])
	default:
		w.number(n)
	}
}

func (w *textWriter) put(s string) { w.text = append(w.text, s...) }

func (w *textWriter) number(n int) {
	w.put(" ")
	w.put(strconv.Itoa(n))
}

func (w *textWriter) name(name string) {
	w.put(` "`)
	for i := range len(name) {
		if isMarked(name[i]) {
			w.put(`\`)
		}
		w.text = append(w.text, name[i])
	}
	w.put(`"`)
}

// isMarked tells whether a `\` stands ahead of a byte in quotes.
func isMarked(b byte) bool { return b == '"' || b == '\\' }
