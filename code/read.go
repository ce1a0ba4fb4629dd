package code

import (
	"strconv"
	"strings"

	"sloth/api"
)

// textReader reads a table's text from the left. A global may be named ahead of the line that tells it: so each name of one has a number of its own, by which instructions mean it till the text has ended.
type textReader struct {
	rest    string
	read    api.Table
	shapes  map[string]int // the first one of each name
	globals map[string]int // the number of each name
	first   []int          // of each of these numbers: the first global of that name, or missing
}

const missing = -1

func newTextReader(text string) *textReader {
	return &textReader{rest: text, shapes: map[string]int{}, globals: map[string]int{}}
}

func (r *textReader) table() {
	word := r.word()
	for word == "shape" {
		r.shape()
		word = r.word()
	}
	for word == "global" {
		word = r.global()
	}
	if word != "" || r.rest != "" {
		giveUp(api.ErrCodeText)
	}
	r.settle()
}

func (r *textReader) shape() {
	s := api.Shape{Name: r.name(), Fields: r.number()}
	if _, twice := r.shapes[s.Name]; !twice {
		r.shapes[s.Name] = len(r.read.Shapes)
	}
	r.read.Shapes = append(r.read.Shapes, s)
}

// global reads a global with its code, and tells the first word behind it.
func (r *textReader) global() string {
	g := api.Global{Name: r.name(), Arity: r.number()}
	if k := r.numberOfName(g.Name); r.first[k] == missing {
		r.first[k] = len(r.read.Globals)
	}
	word := r.word()
	for op := opOf(word); op != 0; op = opOf(word) {
		g.Code = append(g.Code, instrOf(op, r.numberOf))
		word = r.word()
	}
	r.read.Globals = append(r.read.Globals, g)
	return word
}

func (r *textReader) numberOfName(name string) int {
	k, known := r.globals[name]
	if !known {
		k = len(r.first)
		r.globals[name] = k
		r.first = append(r.first, missing)
	}
	return k
}

// settle puts globals' numbers in the places of their names' numbers.
func (r *textReader) settle() {
	for _, g := range r.read.Globals {
		for i := range g.Code {
			x := &g.Code[i]
			if x.Op != api.OpGlobal {
				continue
			}
			x.A = r.first[x.A]
			if x.A == missing {
				giveUp(api.ErrCodeText)
			}
		}
	}
}

// numberOf reads a number of an instruction.
func (r *textReader) numberOf(kind int) int {
	switch kind {
	case shape:
		n, ok := r.shapes[r.name()]
		if !ok {
			giveUp(api.ErrCodeText)
		}
		return n
	case global:
		return r.numberOfName(r.name())
	case operator:
		n := operatorOf(r.word())
		if n == 0 {
			giveUp(api.ErrCodeText)
		}
		return n
	}
	return r.number()
}

// number reads a number. One that would be written otherwise is none.
func (r *textReader) number() int {
	word := r.word()
	n, err := strconv.Atoi(word)
	if err != nil || strconv.Itoa(n) != word || !isInteger(n) {
		giveUp(api.ErrCodeText)
	}
	return n
}

const blanks = " \t\n\r"

func (r *textReader) skipBlanks() { r.rest = strings.TrimLeft(r.rest, blanks) }

// word reads all that stands ahead of a blank or a name in quotes; it is empty, if none is next. A byte that may not stand in a word makes one that means nothing.
func (r *textReader) word() string {
	r.skipBlanks()
	end := strings.IndexAny(r.rest, blanks+`"`)
	if end < 0 {
		end = len(r.rest)
	}
	word := r.rest[:end]
	r.rest = r.rest[end:]
	return word
}

// name reads a name in quotes.
func (r *textReader) name() string {
	r.skipBlanks()
	if !strings.HasPrefix(r.rest, `"`) {
		giveUp(api.ErrCodeText)
	}
	var name []byte
	i := 1
	for ; i < len(r.rest) && r.rest[i] != '"'; i++ {
		if r.rest[i] == '\\' {
			i++
			if i == len(r.rest) || !isMarked(r.rest[i]) {
				giveUp(api.ErrCodeText)
			}
		}
		name = append(name, r.rest[i])
	}
	if i == len(r.rest) || !isName(string(name)) {
		giveUp(api.ErrCodeText)
	}
	r.rest = r.rest[i+1:]
	return string(name)
}
