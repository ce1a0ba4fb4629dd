package meaning

import (
	"slices"

	"sloth/api"
)

// machine works a program out. Either there is an expression to be worked out now, or a value has come, which goes to what waited for it last; if nothing waits, it is told. What waits stands in a list, since that may become as long as the fuel.
type machine struct {
	fuel, steps int
	now         *expr
	in          *names // in sight of now
	come        value  // where now is nil
	waits       []wait
	left        []*cell // fields that are still to be told, the next one last
	told        []api.Item
	kind, stuck int // of the outcome; 0 till there is one
	no, yes     value
}

func (m *machine) run() api.Outcome {
	for m.kind == 0 {
		switch last := len(m.waits) - 1; {
		case m.now != nil:
			m.work()
		case last >= 0:
			w := m.waits[last]
			m.waits = m.waits[:last]
			w.take(m, m.come)
		default:
			m.tell()
		}
	}
	return api.Outcome{Kind: m.kind, Told: m.told, Stuck: m.stuck, Steps: m.steps}
}

func (m *machine) next(e *expr, in *names) { m.now, m.in = e, in }

func (m *machine) answer(v value) { m.now, m.come = nil, v }

func (m *machine) wait(w wait) { m.waits = append(m.waits, w) }

func (m *machine) stick(how int) { m.kind, m.stuck = api.Stuck, how }

func (m *machine) truth(holds bool) value {
	if holds {
		return m.yes
	}
	return m.no
}

// step begins a step, if there is fuel for it.
func (m *machine) step() bool {
	if m.steps == m.fuel {
		m.kind = api.OutOfFuel
		return false
	}
	m.steps++
	return true
}

// force works out what a cell holds, if it is not worked out yet.
func (m *machine) force(c *cell) {
	switch x := c.holds.(type) {
	case late:
		c.holds = busy{}
		m.wait(keep{c})
		m.next(x.expr, x.in)
	case busy:
		m.stick(api.StuckLoop)
	case value:
		m.answer(x)
	}
}

// apply gives a function what a cell holds.
func (m *machine) apply(f value, c *cell) {
	switch f := f.(type) {
	case *lambda:
		m.next(f.body, f.in.with(c))
	case *construct:
		m.answer(f.with(c))
	default:
		m.stick(api.StuckForm)
	}
}

// tell tells the value that has come, ahead of its fields.
func (m *machine) tell() {
	if !m.step() {
		return
	}
	switch v := m.come.(type) {
	case number:
		m.told = append(m.told, api.Item{Num: int(v)})
	case *construct:
		m.told = append(m.told, api.Item{Con: v.name})
		for _, c := range slices.Backward(v.fields) {
			m.left = append(m.left, c)
		}
	default:
		m.stick(api.StuckForm)
		return
	}
	m.field()
}

// field goes on with the next field that is to be told.
func (m *machine) field() {
	last := len(m.left) - 1
	if last < 0 {
		m.kind = api.Done
		return
	}
	c := m.left[last]
	m.left = m.left[:last]
	m.force(c)
}

// work does the step of the expression that is worked out now.
func (m *machine) work() {
	if !m.step() {
		return
	}
	e, in := m.now, m.in
	switch e.kind {
	case api.ExprVar:
		m.force(in.cell(e.at))
	case api.ExprInt, api.ExprCon:
		m.answer(e.value)
	case api.ExprGlobal:
		m.force(e.global)
	case api.ExprApp:
		m.wait(give{&cell{late{&e.args[1], in}}})
		m.next(&e.args[0], in)
	case api.ExprLam:
		m.answer(&lambda{&e.args[0], in})
	case api.ExprLet:
		m.next(&e.args[0], in.withLet(e.values))
	case api.ExprCase:
		m.wait(choose{e, in})
		m.next(&e.args[0], in)
	case api.ExprOp:
		m.wait(second{e, in})
		m.next(&e.args[0], in)
	case api.ExprSeq:
		m.wait(leave{&e.args[1], in})
		m.next(&e.args[0], in)
	case api.ExprHard:
		m.wait(bind{&e.args[0], in})
		m.next(&e.values[0], in)
	case api.ExprFail:
		m.stick(e.num)
	}
}
