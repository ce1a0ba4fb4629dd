package meaning

import (
	"sloth/api"
	"sloth/arith"
)

// wait is what waits for a value. Of a typed program it is one that it can take; another would be stuck.
type wait interface{ take(m *machine, v value) }

// keep is a cell that is busy.
type keep struct{ cell *cell }

// give waits for a function, which is given what a cell holds.
type give struct{ cell *cell }

// choose waits for what its ExprCase looks at.
type choose late

// second waits for the first operand of its ExprOp.
type second late

// operate waits for the second operand.
type operate struct {
	op    string
	first value
}

// leave waits for the first of an ExprSeq, and leaves it for the second.
type leave late

// bind waits for the Value of an ExprHard, whose body comes then.
type bind late

func (w keep) take(m *machine, v value) {
	w.cell.holds = v
	m.answer(v)
}

func (w give) take(m *machine, v value) { m.apply(v, w.cell) }

func (w choose) take(m *machine, v value) {
	switch v := v.(type) {
	case number:
		if e, ok := w.expr.alts[int(v)]; ok {
			m.next(e, w.in)
			return
		}
	case *construct:
		if e, ok := w.expr.alts[v.number]; ok {
			m.next(e, w.in.with(v.fields...))
			return
		}
	default:
		m.stick(api.StuckForm)
		return
	}
	if w.expr.other == nil {
		m.stick(api.StuckMatch)
		return
	}
	m.next(w.expr.other, w.in)
}

func (w second) take(m *machine, v value) {
	m.wait(operate{w.expr.op, v})
	m.next(&w.expr.args[1], w.in)
}

func (w operate) take(m *machine, v value) {
	a, isFirst := w.first.(number)
	b, isSecond := v.(number)
	if !isFirst || !isSecond {
		m.stick(api.StuckForm)
		return
	}
	if holds, ok := arith.Compare(w.op, int(a), int(b)); ok {
		m.answer(m.truth(holds))
		return
	}
	n, ok := arith.Sum(w.op, int(a), int(b))
	if !ok {
		m.stick(api.StuckZero)
		return
	}
	m.answer(number(n))
}

func (w leave) take(m *machine, v value) { m.next(w.expr, w.in) }

func (w bind) take(m *machine, v value) { m.next(w.expr, w.in.with(&cell{v})) }
