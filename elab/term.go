package elab

import (
	"sloth/api"
	"sloth/typing"
)

// expr makes an expression of the program of one of the source.
func (d *definer) expr(e *typing.Term) api.Expr {
	if d.failed {
		return api.Expr{}
	}
	switch e.Kind {
	case api.TermVar:
		return d.value(e)
	case api.TermCon:
		return d.con(e.Name, d.worth(e.Type))
	case api.TermInt:
		return d.put(api.Expr{Kind: api.ExprInt, Num: e.Num})
	case api.TermApp:
		return d.call(&e.Args[0], &e.Args[1])
	case api.TermRight:
		return d.section(e)
	case api.TermLam:
		return d.function(e.Rows)
	case api.TermLet:
		return d.locally(e)
	case api.TermIf:
		return d.either(e)
	}
	return d.cases(e)
}

// called tells the number of the new name of a local; 0 of all that is none.
func (d *definer) called(e *typing.Term) int {
	if e.Kind != api.TermVar {
		return 0
	}
	return d.locals[e.Name]
}

func (d *definer) value(e *typing.Term) api.Expr {
	number := d.called(e)
	switch {
	case number > 0:
		return d.local(number)
	case takesBoth(e):
		return d.alone(e)
	case e.Name == "stop":
		return d.stuck(api.StuckStop, d.worth(e.Type))
	}
	return d.global(e.Name, d.worth(e.Type))
}

// takesBoth tells whether something is a built-in operator, or seq. (No local and no definition has such a name.)
func takesBoth(e *typing.Term) bool {
	if e.Kind != api.TermVar {
		return false
	}
	switch e.Name {
	case "+", "-", "*", "/", "%", "==", "/=", "<", "<=", ">", ">=", "seq":
		return true
	}
	return false
}

// alone is a built-in operator, or seq, that lacks operands.
func (d *definer) alone(e *typing.Term) api.Expr {
	t := d.worth(e.Type)
	x, y := d.fresh(), d.fresh()
	body := d.both(e.Name, d.local(x), d.local(y))
	return d.lambda(x, t.Args[0], d.lambda(y, t.Args[1].Args[0], body))
}

func (d *definer) call(f, x *typing.Term) api.Expr {
	if f.Kind == api.TermApp && takesBoth(&f.Args[0]) {
		return d.both(f.Args[0].Name, d.expr(&f.Args[1]), d.expr(x))
	}
	return d.apply(d.expr(f), d.expr(x))
}

// section is a function of what its operator lacks on the left.
func (d *definer) section(e *typing.Term) api.Expr {
	op, right := &e.Args[0], &e.Args[1]
	left := d.fresh()
	var body api.Expr
	if takesBoth(op) {
		body = d.both(op.Name, d.local(left), d.expr(right))
	} else {
		body = d.apply(d.apply(d.expr(op), d.local(left)), d.expr(right))
	}
	return d.lambda(left, d.worth(e.Type).Args[0], body)
}

// inside does something where names of the source are called otherwise than outside.
func (d *definer) inside(names []string, numbers []int, do func()) {
	outer := make([]int, len(names))
	for i, name := range names {
		outer[i], d.locals[name] = d.locals[name], numbers[i]
	}
	do()
	for i, name := range names {
		d.locals[name] = outer[i]
	}
}

// locally is a let: its names are known in all its clauses and in its body.
func (d *definer) locally(e *typing.Term) api.Expr {
	names, numbers := make([]string, len(e.Lets)), make([]int, len(e.Lets))
	for i, f := range e.Lets {
		names[i], numbers[i] = f.Name, d.fresh()
	}
	var binds []api.Bind
	var body api.Expr
	d.inside(names, numbers, func() {
		for i, f := range e.Lets {
			binds = append(binds, d.bind(numbers[i], d.worth(f.Type), d.function(f.Rows)))
		}
		body = d.expr(&e.Args[0])
	})
	return d.let(binds, body)
}

func (d *definer) either(e *typing.Term) api.Expr {
	condition := d.expr(&e.Args[0])
	return d.choose(condition, []api.Alt{
		{Kind: api.AltCon, Con: "False", Body: d.expr(&e.Args[2])},
		{Kind: api.AltCon, Con: "True", Body: d.expr(&e.Args[1])},
	})
}

// cases looks at a local name; what is none is given one.
func (d *definer) cases(e *typing.Term) api.Expr {
	looked := &e.Args[0]
	if number := d.called(looked); number > 0 {
		return d.rows([]place{{name: number}}, e.Rows)
	}
	number := d.fresh()
	bind := d.bind(number, d.worth(looked.Type), d.expr(looked))
	return d.let([]api.Bind{bind}, d.rows([]place{{name: number}}, e.Rows))
}
