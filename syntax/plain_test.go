package syntax_test

import (
	"strconv"
	"strings"

	"sloth/api"
)

// plainPrint is P2.7's text once more, put together from texts of the parts, with no limit.
func plainPrint(m api.Module) string {
	lines := []string{"module " + m.Name}
	for _, i := range m.Imports {
		line := "import " + i.Module
		if i.Some {
			line += " (" + strings.Join(texts(i.Names, plainName), ", ") + ")"
		}
		lines = append(lines, line)
	}
	for _, d := range m.Datas {
		cons := texts(d.Cons, func(c api.Con) string {
			return strings.Join(append([]string{c.Name}, texts(c.Fields, plainArgType)...), " ")
		})
		lines = append(lines, strings.Join(append([]string{"data", d.Name}, d.Params...), " ")+" = "+strings.Join(cons, " | "))
	}
	for _, f := range m.Fixes {
		lines = append(lines, []string{"infix ", "infixl ", "infixr "}[f.Assoc]+strconv.Itoa(f.Level)+" "+plainInfix(f.Op))
	}
	for _, s := range m.Sigs {
		lines = append(lines, plainName(s.Name)+" :: "+plainType(s.Type))
	}
	lines = append(lines, texts(m.Clauses, plainClause)...)
	return strings.Join(lines, ";\n") + ";\n"
}

func texts[T any](l []T, text func(T) string) []string {
	out := []string{}
	for _, x := range l {
		out = append(out, text(x))
	}
	return out
}

func plainName(name string) string {
	if !wordy(name) && name != "[]" && name != "()" {
		return "(" + name + ")"
	}
	return name
}

func plainInfix(name string) string {
	if wordy(name) {
		return "`" + name + "`"
	}
	return name
}

func plainType(t api.Type) string {
	inner := texts(t.Args, plainType)
	switch {
	case t.Kind == api.TyFun && t.Args[0].Kind == api.TyFun:
		return "(" + inner[0] + ") -> " + inner[1]
	case t.Kind == api.TyFun:
		return inner[0] + " -> " + inner[1]
	case t.Name == "[]":
		return "[" + inner[0] + "]"
	case t.Name[0] == '(':
		return "(" + strings.Join(inner, ", ") + ")"
	}
	return strings.Join(append([]string{t.Name}, texts(t.Args, plainArgType)...), " ")
}

func plainArgType(t api.Type) string {
	if t.Kind == api.TyFun || wordy(t.Name) && len(t.Args) > 0 {
		return "(" + plainType(t) + ")"
	}
	return plainType(t)
}

func plainPat(p api.Pat) string {
	inner := texts(p.Args, plainPat)
	switch {
	case p.Kind == api.PatWild:
		return "_"
	case p.Kind == api.PatInt:
		return strconv.Itoa(p.Num)
	case p.Name == ":" && p.Args[0].Name == ":":
		return "(" + inner[0] + ") : " + inner[1]
	case p.Name == ":":
		return inner[0] + " : " + inner[1]
	case p.Name == "(,)" || p.Name == "(,,)":
		return "(" + strings.Join(inner, ", ") + ")"
	}
	return strings.Join(append([]string{p.Name}, texts(p.Args, plainArgPat)...), " ")
}

func plainArgPat(p api.Pat) string {
	if len(p.Args) > 0 && p.Name != "(,)" && p.Name != "(,,)" {
		return "(" + plainPat(p) + ")"
	}
	return plainPat(p)
}

func plainClause(c api.Clause) string {
	return strings.Join(append([]string{plainName(c.Name)}, texts(c.Pats, plainArgPat)...), " ") + " = " + plainFull(c.Body)
}

func plainFull(t api.Term) string {
	switch t.Kind {
	case api.TermFlat:
		return plainRow(t.Args, 1)
	case api.TermLam:
		return "\\" + strings.Join(texts(t.Pats, plainArgPat), " ") + " -> " + plainFull(t.Args[0])
	case api.TermLet:
		return "let {" + strings.Join(texts(t.Clauses, plainClause), "; ") + "} in " + plainFull(t.Args[0])
	case api.TermIf:
		return "if " + plainFull(t.Args[0]) + " then " + plainFull(t.Args[1]) + " else " + plainFull(t.Args[2])
	case api.TermCase:
		return "case " + plainFull(t.Args[0]) + " of {" + strings.Join(texts(t.Alts, func(b api.Branch) string { return plainPat(b.Pat) + " -> " + plainFull(b.Body) }), "; ") + "}"
	}
	return plainOperand(t)
}

func plainRow(row []api.Term, operators int) string {
	l := texts(row, plainOperand)
	for i := operators; i < len(row); i += 2 {
		l[i] = plainInfix(row[i].Name)
	}
	return strings.Join(l, " ")
}

func plainOperand(t api.Term) string {
	if _, whole := plainWhole(t); t.Kind == api.TermApp && !whole {
		f, whole := plainWhole(t.Args[0])
		if t.Args[0].Kind == api.TermApp && !whole {
			f = plainOperand(t.Args[0])
		} else {
			f = plainArgument(t.Args[0])
		}
		return f + " " + plainArgument(t.Args[1])
	}
	return plainArgument(t)
}

// plainWhole writes what is a tuple or a list with parts, and tells whether it is.
func plainWhole(t api.Term) (string, bool) {
	if parts, ok := tupleOf(t); ok {
		return "(" + strings.Join(texts(parts, plainFull), ", ") + ")", true
	}
	if parts, _, ok := termParts(t); ok && len(parts) > 0 {
		return "[" + strings.Join(texts(parts, plainFull), ", ") + "]", true
	}
	return "", false
}

func plainArgument(t api.Term) string {
	if text, ok := plainWhole(t); ok {
		return text
	}
	switch t.Kind {
	case api.TermVar, api.TermCon:
		return plainName(t.Name)
	case api.TermInt:
		return strconv.Itoa(t.Num)
	case api.TermLeft:
		return "(" + plainRow(t.Args, 1) + ")"
	case api.TermRight:
		return "(" + plainRow(t.Args, 0) + ")"
	case api.TermApp, api.TermFlat, api.TermLam, api.TermLet, api.TermIf, api.TermCase:
		return "(" + plainFull(t) + ")"
	}
	return ""
}
