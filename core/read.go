package core

import (
	"strconv"
	"strings"

	"sloth/api"
)

// reader reads a text that is made of pieces. Where something cannot stand it gives all that is left up, so that everything comes to its end.
type reader struct {
	next piece // nil: the text ends
	rest string
	bad  bool
}

// read reads a program, and tells whether the text is one's.
func read(text string) (api.Program, bool) {
	r := &reader{rest: text}
	r.take()
	p := r.program()
	return p, !r.bad
}

func (r *reader) fail() { *r = reader{bad: true} }

func (r *reader) take() piece {
	p := r.next
	r.next, r.rest, _ = cut(r.rest)
	return p
}

func (r *reader) skip(b bracket) bool {
	if r.next != b {
		return false
	}
	r.take()
	return true
}

func (r *reader) must(b bracket) {
	if !r.skip(b) {
		r.fail()
	}
}

// isMore tells whether something else than a closing bracket is next.
func (r *reader) isMore() bool { return r.next != nil && r.next != closing }

// word reads a word, in memory of its own.
func (r *reader) word() string {
	switch x := r.take().(type) {
	case word:
		return strings.Clone(string(x))
	}
	r.fail()
	return ""
}

func (r *reader) name() string {
	switch x := r.take().(type) {
	case quoted:
		return string(x)
	}
	r.fail()
	return ""
}

// typeName reads the name of a variable (TyVar) or of a data type (TyData).
func (r *reader) typeName(kind int) string {
	name := r.word()
	if !isTypeName(kind, name) {
		r.fail()
	}
	return name
}

func (r *reader) number() int { return r.numberOf(r.word()) }

func (r *reader) numberOf(text string) int {
	n, err := strconv.Atoi(text)
	if err != nil || strconv.Itoa(n) != text || !isNumber(n) {
		r.fail()
	}
	return n
}

func (r *reader) program() api.Program {
	var p api.Program
	for r.skip(opening) {
		switch head := r.word(); {
		case head == "data" && len(p.Defs) == 0:
			p.Datas = append(p.Datas, r.data())
		case head == "def":
			p.Defs = append(p.Defs, r.def())
		default:
			r.fail()
		}
		r.must(closing)
	}
	if r.next != nil {
		r.fail()
	}
	return p
}

func (r *reader) data() api.Data {
	d := api.Data{Name: r.typeName(api.TyData), Params: r.params()}
	for r.skip(opening) {
		d.Cons = append(d.Cons, api.Con{Name: r.name(), Fields: r.types()})
		r.must(closing)
	}
	return d
}

func (r *reader) def() api.Def {
	return api.Def{Name: r.name(), Params: r.params(), Type: r.typ(), Body: r.expr()}
}

func (r *reader) params() []string {
	return r.row(func() string { return r.typeName(api.TyVar) })
}

// row reads names in brackets.
func (r *reader) row(one func() string) []string {
	var l []string
	r.must(opening)
	for r.isMore() {
		l = append(l, one())
	}
	r.must(closing)
	return l
}

func (r *reader) types() []api.Type {
	var l []api.Type
	for r.isMore() {
		l = append(l, r.typ())
	}
	return l
}

func (r *reader) typ() api.Type {
	switch x := r.take().(type) {
	case word:
		return r.leaf(strings.Clone(string(x)))
	case bracket:
		if x == opening {
			return r.inner()
		}
	}
	r.fail()
	return api.Type{}
}

func (r *reader) leaf(name string) api.Type {
	switch {
	case name == "Int":
		return api.Type{Kind: api.TyInt}
	case isTypeName(api.TyVar, name):
		return api.Type{Kind: api.TyVar, Name: name}
	case isTypeName(api.TyData, name):
		return api.Type{Kind: api.TyData, Name: name}
	}
	r.fail()
	return api.Type{}
}

// inner reads what stands between the brackets of a type.
func (r *reader) inner() api.Type {
	t := r.typ()
	if r.next == word("->") {
		r.take()
		t = api.Type{Kind: api.TyFun, Args: []api.Type{t, r.typ()}}
	} else if t.Kind == api.TyData && len(t.Args) == 0 {
		t.Args = r.args()
	} else {
		r.fail()
	}
	r.must(closing)
	return t
}

func (r *reader) args() []api.Type {
	l := r.types()
	if len(l) == 0 || len(l) > api.MaxParams {
		r.fail()
	}
	return l
}

func (r *reader) expr() api.Expr {
	switch x := r.take().(type) {
	case quoted:
		return api.Expr{Kind: api.ExprVar, Name: string(x)}
	case word:
		return api.Expr{Kind: api.ExprInt, Num: r.numberOf(string(x))}
	case bracket:
		if x == opening {
			return r.whole()
		}
	}
	r.fail()
	return api.Expr{}
}

// whole reads an expression in brackets, behind the first one.
func (r *reader) whole() api.Expr {
	kind := kindOf(r.word())
	if kind == 0 {
		r.fail()
		return api.Expr{}
	}
	e := api.Expr{Kind: kind}
	r.own(&e)
	for range kinds[kind].args {
		e.Args = append(e.Args, r.expr())
	}
	for kind == api.ExprCase && r.skip(opening) {
		e.Alts = append(e.Alts, r.alt())
		r.must(closing)
	}
	r.must(closing)
	return e
}

// own reads what stands in an expression ahead of its Args.
func (r *reader) own(e *api.Expr) {
	switch e.Kind {
	case api.ExprGlobal, api.ExprCon:
		e.Name, e.Types = r.name(), r.types()
	case api.ExprOp:
		e.Name = r.word()
	case api.ExprFail:
		e.Num, e.Types = r.number(), []api.Type{r.typ()}
	case api.ExprLam:
		e.Binds = []api.Bind{{Name: r.name(), Type: r.typ()}}
	case api.ExprHard:
		e.Binds = []api.Bind{r.bind()}
	case api.ExprLet:
		r.must(opening)
		for r.skip(opening) {
			e.Binds = append(e.Binds, r.bind())
			r.must(closing)
		}
		r.must(closing)
	}
}

func (r *reader) bind() api.Bind {
	return api.Bind{Name: r.name(), Type: r.typ(), Value: r.expr()}
}

func (r *reader) alt() api.Alt {
	var a api.Alt
	switch r.word() {
	case "con":
		a = api.Alt{Kind: api.AltCon, Con: r.name(), Vars: r.row(r.name)}
	case "int":
		a = api.Alt{Kind: api.AltInt, Num: r.number()}
	case "else":
		a = api.Alt{Kind: api.AltElse}
	default:
		r.fail()
	}
	a.Body = r.expr()
	return a
}
