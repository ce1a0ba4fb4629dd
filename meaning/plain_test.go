package meaning_test

import (
	"maps"
	"math/big"

	"sloth/api"
)

// plain is a second form of a run, by the chapter's words: calls that call themselves, names as they stand, what is in sight copied each time.
type plain struct {
	fields map[string]int // of constructors
	defs   map[string]*box
	fuel   int
	out    api.Outcome
}

// box is a cell.
type box struct {
	state int
	value any // worked
	expr  api.Expr
	sight sight
}

const (
	unworked = iota
	isBusy
	worked
)

type sight map[string]*box

func (s sight) and(name string, b *box) sight {
	s = maps.Clone(s)
	s[name] = b
	return s
}

// made is a constructor with the fields that it has; called is a lambda.
type made struct {
	name   string
	fields []*box
}

type called struct {
	expr  api.Expr
	sight sight
}

// ended is the panic of a run that goes no further.
type ended struct{}

// plainRun runs what is not refused. (It asks for the input, if the entry's type is a function.)
func plainRun(p api.Program, entry string, input []int, fuel int) (out api.Outcome) {
	k := &plain{fields: map[string]int{"False": 0, "True": 0, "Unit": 0, "Nil": 0, "Cons": 2, "Pair": 2, "Triple": 3}, defs: map[string]*box{}, fuel: fuel}
	for _, d := range p.Datas {
		for _, c := range d.Cons {
			k.fields[c.Name] = len(c.Fields)
		}
	}
	takes := false
	for _, d := range p.Defs {
		k.defs[d.Name] = &box{expr: d.Body, sight: sight{}}
		if d.Name == entry {
			takes = d.Type.Kind == api.TyFun
		}
	}
	defer func() {
		if _, ok := recover().(ended); !ok && k.out.Kind == 0 {
			panic("the second form is wrong")
		}
		out = k.out
	}()
	v := k.work(api.Expr{Kind: api.ExprGlobal, Name: entry}, sight{})
	if takes {
		v = k.give(v, k.input(input))
	}
	k.tell(v)
	k.out.Kind = api.Done
	return
}

func (k *plain) input(l []int) *box {
	if len(l) == 0 {
		return &box{state: worked, value: made{name: "Nil"}}
	}
	return &box{state: worked, value: made{name: "Cons", fields: []*box{{state: worked, value: l[0]}, k.input(l[1:])}}}
}

func (k *plain) end(kind, stuck int) {
	k.out.Kind, k.out.Stuck = kind, stuck
	panic(ended{})
}

func (k *plain) step() {
	if k.out.Steps == k.fuel {
		k.end(api.OutOfFuel, 0)
	}
	k.out.Steps++
}

func (k *plain) tell(v any) {
	k.step()
	switch v := v.(type) {
	case int:
		k.out.Told = append(k.out.Told, api.Item{Num: v})
	case made:
		k.out.Told = append(k.out.Told, api.Item{Con: v.name})
		for _, b := range v.fields {
			k.tell(k.force(b))
		}
	}
}

func (k *plain) force(b *box) any {
	switch b.state {
	case worked:
		return b.value
	case isBusy:
		k.end(api.Stuck, api.StuckLoop)
	}
	b.state = isBusy
	v := k.work(b.expr, b.sight)
	b.state, b.value = worked, v
	return v
}

func (k *plain) give(f any, b *box) any {
	if c, ok := f.(called); ok {
		return k.work(c.expr.Args[0], c.sight.and(c.expr.Binds[0].Name, b))
	}
	m := f.(made)
	return made{m.name, append(append([]*box{}, m.fields...), b)}
}

func (k *plain) work(e api.Expr, s sight) any {
	k.step()
	switch e.Kind {
	case api.ExprVar:
		return k.force(s[e.Name])
	case api.ExprInt:
		return e.Num
	case api.ExprGlobal:
		return k.force(k.defs[e.Name])
	case api.ExprCon:
		return made{name: e.Name}
	case api.ExprApp:
		f := k.work(e.Args[0], s)
		return k.give(f, &box{expr: e.Args[1], sight: s})
	case api.ExprLam:
		return called{e, s}
	case api.ExprLet:
		s = maps.Clone(s)
		for _, b := range e.Binds {
			s[b.Name] = &box{expr: b.Value, sight: s}
		}
		return k.work(e.Args[0], s)
	case api.ExprCase:
		return k.choose(k.work(e.Args[0], s), e.Alts, s)
	case api.ExprOp:
		a := k.work(e.Args[0], s).(int)
		return k.operate(e.Name, a, k.work(e.Args[1], s).(int))
	case api.ExprSeq:
		k.work(e.Args[0], s)
		return k.work(e.Args[1], s)
	case api.ExprHard:
		v := k.work(e.Binds[0].Value, s)
		return k.work(e.Args[0], s.and(e.Binds[0].Name, &box{state: worked, value: v}))
	}
	k.end(api.Stuck, e.Num)
	return nil
}

func (k *plain) choose(v any, l []api.Alt, s sight) any {
	for _, a := range l {
		switch v := v.(type) {
		case int:
			if a.Kind == api.AltElse || a.Kind == api.AltInt && a.Num == v {
				return k.work(a.Body, s)
			}
		case made:
			if a.Kind == api.AltCon && a.Con == v.name && len(v.fields) == k.fields[v.name] {
				s = maps.Clone(s)
				for i, name := range a.Vars {
					s[name] = v.fields[i]
				}
				return k.work(a.Body, s)
			}
			if a.Kind == api.AltElse {
				return k.work(a.Body, s)
			}
		}
	}
	k.end(api.Stuck, api.StuckMatch)
	return nil
}

func (k *plain) operate(op string, a, b int) any {
	v, ok := plainOp(op, a, b)
	if !ok {
		k.end(api.Stuck, api.StuckZero)
	}
	return v
}

// plainOp: a number, or a constructor; false: by 0. Numbers are as great as they are, and wrapped behind that.
func plainOp(op string, m, n int) (any, bool) {
	a, b := big.NewInt(int64(m)), big.NewInt(int64(n))
	cmp := a.Cmp(b)
	holds, compares := map[string]bool{"==": cmp == 0, "/=": cmp != 0, "<": cmp < 0, "<=": cmp <= 0, ">": cmp > 0, ">=": cmp >= 0}[op]
	if compares {
		return made{name: map[bool]string{false: "False", true: "True"}[holds]}, true
	}
	if n == 0 && (op == "/" || op == "%") {
		return nil, false
	}
	var c big.Int
	switch op {
	case "+":
		c.Add(a, b)
	case "-":
		c.Sub(a, b)
	case "*":
		c.Mul(a, b)
	case "/":
		c.Quo(a, b)
	case "%":
		c.Rem(a, b)
	}
	// the lowest 63 bits, the highest of which is the sign
	all := new(big.Int).Lsh(big.NewInt(1), 63)
	c.Mod(&c, all)
	if c.Bit(62) == 1 {
		c.Sub(&c, all)
	}
	return int(c.Int64()), true
}
