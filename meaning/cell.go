package meaning

// cell is what a name stands for, in a place that all who know it share: so it is worked out once.
type cell struct{ holds thing }

// thing is what a cell can hold: a value, something late, or busy. (Its call keeps all other types out.)
type thing interface{ isThing() }

// value is a thing in head form: a number, a construct or a lambda.
type value interface {
	thing
	isValue()
}

type number int

// construct is a constructor with a cell for each field. If it lacks some, it is a function: no typed program asks which of both it is.
type construct struct {
	name   string
	number int // no other constructor of the program has it
	fields []*cell
}

// lambda is a function: its body, and the names in sight where it stands.
type lambda struct {
	body *expr
	in   *names
}

// late is an expression that has not been worked out yet.
type late struct {
	expr *expr
	in   *names
}

// busy stands in a cell whose expression is being worked out.
type busy struct{}

func (number) isThing()     {}
func (*construct) isThing() {}
func (*lambda) isThing()    {}
func (late) isThing()       {}
func (busy) isThing()       {}

func (number) isValue()     {}
func (*construct) isValue() {}
func (*lambda) isValue()    {}

// with is the constructor with one field more, in memory of its own: a function may be given several things.
func (k *construct) with(c *cell) *construct {
	fields := make([]*cell, 0, len(k.fields)+1)
	fields = append(append(fields, k.fields...), c)
	return &construct{name: k.name, number: k.number, fields: fields}
}
