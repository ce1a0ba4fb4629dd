package core

import (
	"strconv"

	"sloth/api"
)

// writer writes a right program piece by piece. Once there are more bytes than may be, it writes no more.
type writer struct {
	text []byte
	gap  bool // is a blank due ahead of the next piece, if that closes nothing?
}

func (w *writer) isFull() bool { return len(w.text) > api.MaxCoreText }

func (w *writer) put(l ...piece) {
	for _, p := range l {
		if w.isFull() {
			return
		}
		if w.gap && p != closing {
			w.text = append(w.text, ' ')
		}
		w.text = p.write(w.text)
		w.gap = p != opening
	}
}

// line ends a data type or a definition.
func (w *writer) line() {
	w.put(closing)
	w.text = append(w.text, '\n')
	w.gap = false
}

func (w *writer) program(p api.Program) {
	for i := range p.Datas {
		w.data(&p.Datas[i])
	}
	for i := range p.Defs {
		d := &p.Defs[i]
		w.put(opening, word("def"), quoted(d.Name))
		w.params(d.Params)
		w.typ(d.Type)
		w.expr(&d.Body)
		w.line()
	}
}

func (w *writer) data(d *api.Data) {
	w.put(opening, word("data"), word(d.Name))
	w.params(d.Params)
	for _, c := range d.Cons {
		w.put(opening, quoted(c.Name))
		w.types(c.Fields)
		w.put(closing)
	}
	w.line()
}

func (w *writer) params(l []string) {
	w.put(opening)
	for _, name := range l {
		w.put(word(name))
	}
	w.put(closing)
}

func (w *writer) types(l []api.Type) {
	for _, t := range l {
		w.typ(t)
	}
}

func (w *writer) typ(t api.Type) {
	switch {
	case t.Kind == api.TyInt:
		w.put(word("Int"))
	case t.Kind == api.TyFun:
		w.put(opening)
		w.typ(t.Args[0])
		w.put(word("->"))
		w.typ(t.Args[1])
		w.put(closing)
	case len(t.Args) > 0:
		w.put(opening, word(t.Name))
		w.types(t.Args)
		w.put(closing)
	default:
		w.put(word(t.Name))
	}
}

func (w *writer) number(n int) { w.put(word(strconv.Itoa(n))) }

func (w *writer) expr(e *api.Expr) {
	switch e.Kind {
	case api.ExprVar:
		w.put(quoted(e.Name))
		return
	case api.ExprInt:
		w.number(e.Num)
		return
	}
	w.put(opening, word(kinds[e.Kind].head))
	w.own(e)
	for i := range e.Args {
		w.expr(&e.Args[i])
	}
	for i := range e.Alts {
		w.alt(&e.Alts[i])
	}
	w.put(closing)
}

// own writes what stands in an expression ahead of its Args.
func (w *writer) own(e *api.Expr) {
	switch e.Kind {
	case api.ExprGlobal, api.ExprCon:
		w.put(quoted(e.Name))
		w.types(e.Types)
	case api.ExprOp:
		w.put(word(e.Name))
	case api.ExprFail:
		w.number(e.Num)
		w.types(e.Types)
	case api.ExprLam:
		w.local(&e.Binds[0])
	case api.ExprHard:
		w.bind(&e.Binds[0])
	case api.ExprLet:
		w.put(opening)
		for i := range e.Binds {
			w.put(opening)
			w.bind(&e.Binds[i])
			w.put(closing)
		}
		w.put(closing)
	}
}

func (w *writer) local(b *api.Bind) {
	w.put(quoted(b.Name))
	w.typ(b.Type)
}

func (w *writer) bind(b *api.Bind) {
	w.local(b)
	w.expr(&b.Value)
}

func (w *writer) alt(a *api.Alt) {
	w.put(opening)
	switch a.Kind {
	case api.AltCon:
		w.put(word("con"), quoted(a.Con), opening)
		for _, name := range a.Vars {
			w.put(quoted(name))
		}
		w.put(closing)
	case api.AltInt:
		w.put(word("int"))
		w.number(a.Num)
	default:
		w.put(word("else"))
	}
	w.expr(&a.Body)
	w.put(closing)
}
