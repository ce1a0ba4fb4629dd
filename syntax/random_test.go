package syntax_test

import (
	"math/rand"
	"strconv"
	"strings"

	"sloth/api"
)

// maker makes trees that may be, at random.
type maker struct{ *rand.Rand }

func pick[T any](r *rand.Rand, l ...T) T { return l[r.Intn(len(l))] }

func some[T any](k maker, least, most int, make func() T) []T {
	var l []T
	for range least + k.Intn(most-least+1) {
		l = append(l, make())
	}
	return l
}

func (k maker) lower() string { return pick(k.Rand, "a", "b'", "x", "y_1", "lets") }
func (k maker) upper() string { return pick(k.Rand, "A", "B'", "Int", "M") }
func (k maker) op() string    { return pick(k.Rand, "+", "-", ".", "-->", "*", "|>", "=>") }
func (k maker) def() string   { return pick(k.Rand, k.lower(), k.lower(), k.op()) }

func (k maker) anyUpper() string {
	return pick(k.Rand, "", "", "N.") + k.upper()
}

func (k maker) module() api.Module {
	return api.Module{
		Name: k.upper(),
		Imports: some(k, 0, 2, func() api.Import {
			if k.Intn(2) == 0 {
				return api.Import{Module: k.upper()}
			}
			return api.Import{Module: k.upper(), Some: true, Names: some(k, 0, 3, func() string { return pick(k.Rand, k.def(), k.upper()) })}
		}),
		Datas: some(k, 0, 2, func() api.Data {
			return api.Data{Name: k.upper(), Params: some(k, 0, 2, k.lower), Cons: some(k, 1, 3, func() api.Con {
				return api.Con{Name: k.upper(), Fields: some(k, 0, 3, func() api.Type { return k.typ(3) })}
			})}
		}),
		Fixes: some(k, 0, 2, func() api.Fixity { return api.Fixity{Op: k.def(), Assoc: k.Intn(3), Level: k.Intn(10)} }),
		Sigs:  some(k, 0, 2, func() api.Sig { return api.Sig{Name: k.def(), Type: k.typ(4)} }),
		Clauses: some(k, 0, 2, func() api.Clause {
			return k.clause(5)
		}),
	}
}

func (k maker) clause(depth int) api.Clause {
	return clause(k.def(), k.term(depth), some(k, 0, 2, func() api.Pat { return k.pat(3) })...)
}

func (k maker) typ(depth int) api.Type {
	if depth <= 1 {
		return pick(k.Rand, tyVar(k.lower()), data(k.anyUpper()), data("()"))
	}
	inner := func() api.Type { return k.typ(depth - 1) }
	switch k.Intn(6) {
	case 0:
		return fun(inner(), inner())
	case 1:
		return data("[]", inner())
	case 2:
		return data("(,)", inner(), inner())
	case 3:
		return data("(,,)", inner(), inner(), inner())
	case 4:
		return data(k.anyUpper(), some(k, 0, 3, inner)...)
	}
	return k.typ(1)
}

func (k maker) pat(depth int) api.Pat {
	if depth <= 1 {
		return pick(k.Rand, patVar(k.lower()), patCon(k.anyUpper()), patCon("()"), patCon("[]"), wild(), patInt(k.number()))
	}
	inner := func() api.Pat { return k.pat(depth - 1) }
	switch k.Intn(6) {
	case 0:
		return patCon(":", inner(), inner())
	case 1:
		return patList(some(k, 0, 3, inner)...)
	case 2:
		return patCon("(,)", inner(), inner())
	case 3:
		return patCon("(,,)", inner(), inner(), inner())
	case 4:
		return patCon(k.anyUpper(), some(k, 0, 3, inner)...)
	}
	return k.pat(1)
}

func (k maker) number() int { return pick(k.Rand, 0, 9, 10, 39, 92, 97, 255, 256, api.MaxInt) }

func (k maker) operator() api.Term {
	return pick(k.Rand, named(k.op()), named(k.op()), con(":"), named(pick(k.Rand, "", "N.")+k.lower()), con(k.anyUpper()))
}

func (k maker) row(operators int, inner func() api.Term) []api.Term {
	row := []api.Term{inner()}
	for range operators {
		row = append(row, k.operator(), inner())
	}
	return row
}

func (k maker) term(depth int) api.Term {
	if depth <= 1 {
		return pick(k.Rand, k.operator(), k.operator(), con("()"), con("[]"), num(k.number()))
	}
	inner := func() api.Term { return k.term(depth - 1) }
	switch k.Intn(14) {
	case 0, 1:
		return app(inner(), some(k, 1, 3, inner)...)
	case 2:
		return app(con(":"), some(k, 1, 3, inner)...)
	case 3:
		return list(some(k, 0, 3, inner)...)
	case 4:
		return app(con("(,)"), some(k, 2, 3, inner)...)
	case 5:
		return app(con("(,,)"), some(k, 3, 4, inner)...)
	case 6, 7:
		return flat(k.row(1+k.Intn(3), inner)...)
	case 8:
		return lam(inner(), some(k, 1, 3, func() api.Pat { return k.pat(depth - 1) })...)
	case 9:
		return let(inner(), some(k, 1, 3, func() api.Clause { return k.clause(depth - 1) })...)
	case 10:
		return cond(inner(), inner(), inner())
	case 11:
		return cases(inner(), some(k, 1, 3, func() api.Branch { return alt(k.pat(depth-1), inner()) })...)
	case 12:
		row := k.row(1+k.Intn(3), inner)
		return left(row[:len(row)-1]...)
	}
	return right(k.row(1+k.Intn(3), inner)[1:]...)
}

// speller writes a tree as one of the many texts that mean it: with brackets that need not be, strings, lists, base 16 and characters, and anything between the tokens.
type speller struct {
	*rand.Rand
	out strings.Builder
}

// put writes tokens, with something between that means nothing.
func (s *speller) put(tokens ...string) {
	for _, token := range tokens {
		s.out.WriteString(pick(s.Rand, " ", " ", "\n", "\t \r\n", "{- { ; -}", " -- ; (\n", " {--}{-{--}-}"))
		s.out.WriteString(token)
	}
}

// brackets writes something in none or some brackets; at least so many.
func (s *speller) brackets(least int, write func()) {
	n := least + pick(s.Rand, 0, 0, 0, 0, 1, 2)
	for range n {
		s.put("(")
	}
	write()
	for range n {
		s.put(")")
	}
}

func between[T any](s *speller, l []T, mark string, write func(T)) {
	for i, x := range l {
		if i > 0 {
			s.put(mark)
		}
		write(x)
	}
}

func each[T any](l []T, write func(T)) {
	for _, x := range l {
		write(x)
	}
}

func wordy(name string) bool {
	return strings.ContainsAny(name[:1], "abcdefghijklmnopqrstuvwxyzABCDEFGHIJKLMNOPQRSTUVWXYZ")
}

func (s *speller) name(name string) {
	if wordy(name) {
		s.put(name)
	} else {
		s.put("(", name, ")")
	}
}

func (s *speller) infix(name string) {
	if wordy(name) {
		s.put("`", name, "`")
	} else {
		s.put(name)
	}
}

func (s *speller) module(m api.Module) string {
	s.put("module", m.Name, ";")
	for _, i := range m.Imports {
		s.put("import", i.Module)
		if i.Some {
			s.put("(")
			between(s, i.Names, ",", s.name)
			s.put(")")
		}
		s.put(";")
	}
	// Declarations of different kinds may stand in any order.
	for len(m.Datas)+len(m.Fixes)+len(m.Sigs)+len(m.Clauses) > 0 {
		switch k := s.Intn(4); {
		case k == 0 && len(m.Datas) > 0:
			s.data(m.Datas[0])
			m.Datas = m.Datas[1:]
		case k == 1 && len(m.Fixes) > 0:
			m.Fixes = s.fixities(m.Fixes)
		case k == 2 && len(m.Sigs) > 0:
			s.name(m.Sigs[0].Name)
			s.put("::")
			s.typ(m.Sigs[0].Type, 2)
			m.Sigs = m.Sigs[1:]
		case k == 3 && len(m.Clauses) > 0:
			s.clause(m.Clauses[0])
			m.Clauses = m.Clauses[1:]
		default:
			continue
		}
		s.put(";")
	}
	s.put("")
	return s.out.String()
}

func (s *speller) data(d api.Data) {
	s.put("data", d.Name)
	s.put(d.Params...)
	s.put("=")
	between(s, d.Cons, "|", func(c api.Con) {
		s.put(c.Name)
		each(c.Fields, func(t api.Type) { s.typ(t, 0) })
	})
}

// fixities writes one or, where it may be, several, and gives the rest.
func (s *speller) fixities(l []api.Fixity) []api.Fixity {
	first := l[0]
	s.put([]string{"infix", "infixl", "infixr"}[first.Assoc], strconv.Itoa(first.Level))
	s.infix(first.Op)
	l = l[1:]
	for len(l) > 0 && l[0].Assoc == first.Assoc && l[0].Level == first.Level && s.Intn(3) > 0 {
		s.put(",")
		s.infix(l[0].Op)
		l = l[1:]
	}
	return l
}

func (s *speller) clause(c api.Clause) {
	s.name(c.Name)
	each(c.Pats, func(p api.Pat) { s.pat(p, 0) })
	s.put("=")
	s.term(c.Body, 3)
}

// least tells how many brackets are needed where something of one level stands in a place for another one.
func needed(level, place int) int {
	if level > place {
		return 1
	}
	return 0
}

// typ: places for an atype (0), a btype (1), a type (2).
func (s *speller) typ(t api.Type, place int) {
	inner := func(t api.Type) { s.typ(t, 2) }
	level := 0
	switch {
	case t.Kind == api.TyFun:
		level = 2
	case len(t.Args) > 0 && wordy(t.Name):
		level = 1
	}
	s.brackets(needed(level, place), func() {
		switch {
		case t.Kind == api.TyFun:
			s.typ(t.Args[0], 1)
			s.put("->")
			s.typ(t.Args[1], 2)
		case t.Name == "[]":
			s.put("[")
			each(t.Args, inner)
			s.put("]")
		case !wordy(t.Name):
			s.put("(")
			between(s, t.Args, ",", inner)
			s.put(")")
		default:
			s.put(t.Name)
			each(t.Args, func(a api.Type) { s.typ(a, 0) })
		}
	})
}

func (s *speller) number(n int) {
	texts := []string{strconv.Itoa(n), "0x" + strconv.FormatInt(int64(n), 16)}
	if n < 256 {
		texts = append(texts, "'\\"+strconv.Itoa(1000 + n)[1:]+"'")
	}
	if n == 97 {
		texts = append(texts, "'a'")
	}
	s.put(pick(s.Rand, texts...))
}

// bytesOf tells the string that some numbers spell, if they do.
func bytesOf(l []int) (string, bool) {
	text := "\""
	for _, n := range l {
		if n < 0 || n > 255 {
			return "", false
		}
		text += "\\" + strconv.Itoa(1000 + n)[1:]
	}
	return text + "\"", true
}

// listed writes a list, as a string where that is one.
func listed[T any](s *speller, parts []T, numbers []int, write func(T)) {
	if text, ok := bytesOf(numbers); ok && len(numbers) == len(parts) && s.Intn(2) == 0 {
		s.put(text)
		return
	}
	s.put("[")
	between(s, parts, ",", write)
	s.put("]")
}

func patParts(p api.Pat) (parts []api.Pat, numbers []int, ok bool) {
	for p.Name == ":" {
		parts = append(parts, p.Args[0])
		if p.Args[0].Kind == api.PatInt {
			numbers = append(numbers, p.Args[0].Num)
		}
		p = p.Args[1]
	}
	return parts, numbers, p.Kind == api.PatCon && p.Name == "[]"
}

// pat: places for an apat (0), a cpat (1), a pat (2).
func (s *speller) pat(p api.Pat, place int) {
	inner := func(p api.Pat) { s.pat(p, 2) }
	if parts, numbers, ok := patParts(p); ok && s.Intn(2) == 0 {
		s.brackets(0, func() { listed(s, parts, numbers, inner) })
		return
	}
	level := 0
	switch {
	case p.Name == ":":
		level = 2
	case len(p.Args) > 0 && wordy(p.Name):
		level = 1
	}
	s.brackets(needed(level, place), func() {
		switch {
		case p.Kind == api.PatWild:
			s.put("_")
		case p.Kind == api.PatInt:
			s.number(p.Num)
		case p.Name == ":":
			s.pat(p.Args[0], 1)
			s.put(":")
			s.pat(p.Args[1], 2)
		case p.Name == "[]":
			s.put("[", "]")
		case !wordy(p.Name):
			s.put("(")
			between(s, p.Args, ",", inner)
			s.put(")")
		default:
			s.put(p.Name)
			each(p.Args, func(a api.Pat) { s.pat(a, 0) })
		}
	})
}

func termParts(t api.Term) (parts []api.Term, numbers []int, ok bool) {
	for t.Kind == api.TermApp && t.Args[0].Kind == api.TermApp && t.Args[0].Args[0].Kind == api.TermCon && t.Args[0].Args[0].Name == ":" {
		first := t.Args[0].Args[1]
		parts = append(parts, first)
		if first.Kind == api.TermInt {
			numbers = append(numbers, first.Num)
		}
		t = t.Args[1]
	}
	return parts, numbers, t.Kind == api.TermCon && t.Name == "[]"
}

// spine takes an application apart.
func spine(t api.Term) (api.Term, []api.Term) {
	if t.Kind != api.TermApp {
		return t, nil
	}
	f, args := spine(t.Args[0])
	return f, append(args, t.Args[1])
}

// tupleOf tells the parts of a tuple that a term is.
func tupleOf(t api.Term) ([]api.Term, bool) {
	f, args := spine(t)
	return args, f.Kind == api.TermCon && (f.Name == "(,)" && len(args) == 2 || f.Name == "(,,)" && len(args) == 3)
}

// term: places for an atom (0), an operand with an operator behind it (1), the last operand of a row (2), an expr (3).
func (s *speller) term(t api.Term, place int) {
	inner := func(t api.Term) { s.term(t, 3) }
	if parts, numbers, ok := termParts(t); ok && s.Intn(3) > 0 {
		s.brackets(0, func() { listed(s, parts, numbers, inner) })
		return
	}
	if parts, ok := tupleOf(t); ok {
		s.brackets(0, func() {
			s.put("(")
			between(s, parts, ",", inner)
			s.put(")")
		})
		return
	}
	level := map[int]int{api.TermApp: 1, api.TermCase: 1, api.TermLam: 2, api.TermLet: 2, api.TermIf: 2, api.TermFlat: 3}[t.Kind]
	s.brackets(needed(level, place), func() { s.bare(t) })
}

// bare writes a term that stands where it may without brackets.
func (s *speller) bare(t api.Term) {
	semicolon := func() {
		if s.Intn(2) == 0 {
			s.put(";")
		}
	}
	switch t.Kind {
	case api.TermVar:
		s.name(t.Name)
	case api.TermCon:
		switch t.Name {
		case "()":
			s.put("(", ")")
		case "[]":
			s.put("[", "]")
		default:
			s.name(t.Name)
		}
	case api.TermInt:
		s.number(t.Num)
	case api.TermApp:
		if function := t.Args[0]; function.Kind == api.TermApp && s.Intn(4) > 0 {
			if _, ok := tupleOf(function); ok {
				s.term(function, 0)
			} else {
				s.bare(function)
			}
		} else {
			s.term(function, 0)
		}
		s.term(t.Args[1], 0)
	case api.TermFlat:
		s.row(t.Args, 1)
	case api.TermLeft:
		s.put("(")
		s.row(t.Args, 1)
		s.put(")")
	case api.TermRight:
		s.put("(")
		s.row(t.Args, 0)
		s.put(")")
	case api.TermLam:
		s.put("\\")
		each(t.Pats, func(p api.Pat) { s.pat(p, 0) })
		s.put("->")
		s.term(t.Args[0], 3)
	case api.TermLet:
		s.put("let", "{")
		between(s, t.Clauses, ";", s.clause)
		semicolon()
		s.put("}", "in")
		s.term(t.Args[0], 3)
	case api.TermIf:
		for i, word := range []string{"if", "then", "else"} {
			s.put(word)
			s.term(t.Args[i], 3)
		}
	case api.TermCase:
		s.put("case")
		s.term(t.Args[0], 3)
		s.put("of", "{")
		between(s, t.Alts, ";", func(b api.Branch) {
			s.pat(b.Pat, 2)
			s.put("->")
			s.term(b.Body, 3)
		})
		semicolon()
		s.put("}")
	}
}

func (s *speller) row(row []api.Term, operators int) {
	for i, t := range row {
		switch {
		case i%2 == operators:
			s.infix(t.Name)
		case i == len(row)-1:
			s.term(t, 2)
		default:
			s.term(t, 1)
		}
	}
}
