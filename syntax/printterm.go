package syntax

import (
	"strconv"

	"sloth/api"
)

// full writes a term that nothing behind it could be taken for a part of.
func (w *writer) full(t api.Term) {
	switch t.Kind {
	case api.TermFlat:
		w.row(t.Args, 1)
	case api.TermLam:
		w.put("\\")
		joined(w, t.Pats, (*writer).argPat, blank)
		w.put(blank, "->", blank)
		w.full(t.Args[0])
	case api.TermLet:
		w.put("let", blank, "{")
		joined(w, t.Clauses, (*writer).clause, ";", blank)
		w.put("}", blank, "in", blank)
		w.full(t.Args[0])
	case api.TermIf:
		w.choice(t.Args)
	case api.TermCase:
		w.put("case", blank)
		w.full(t.Args[0])
		w.put(blank, "of", blank, "{")
		joined(w, t.Alts, (*writer).branch, ";", blank)
		w.put("}")
	default:
		w.operand(t)
	}
}

func (w *writer) choice(args []api.Term) {
	w.put("if", blank)
	w.full(args[0])
	w.put(blank, "then", blank)
	w.full(args[1])
	w.put(blank, "else", blank)
	w.full(args[2])
}

func (w *writer) branch(b api.Branch) {
	w.pat(b.Pat)
	w.put(blank, "->", blank)
	w.full(b.Body)
}

// row writes operands and operators with blanks between; first is the place of the first operator.
func (w *writer) row(row []api.Term, first int) {
	for i, t := range row {
		if i > 0 {
			w.put(blank)
		}
		if i%2 == first {
			w.infix(t.Name)
		} else {
			w.operand(t)
		}
	}
}

// operand writes a term that may stand beside an operator; so may what is applied to one argument more.
func (w *writer) operand(t api.Term) {
	if !isCall(t) {
		w.argument(t)
		return
	}
	w.operand(t.Args[0])
	w.put(blank)
	w.argument(t.Args[1])
}

// argument writes a term that may stand beside anything.
func (w *writer) argument(t api.Term) {
	switch {
	case t.Kind == api.TermVar:
		w.name(t.Name)
	case t.Kind == api.TermCon:
		w.constructor(t.Name)
	case t.Kind == api.TermInt:
		w.put(strconv.Itoa(t.Num))
	case t.Kind == api.TermLeft:
		w.put("(")
		w.row(t.Args, 1)
		w.put(")")
	case t.Kind == api.TermRight:
		w.put("(")
		w.row(t.Args, 0)
		w.put(")")
	case isTuple(t):
		parts(w, "(", tupleParts(t), (*writer).full, ")")
	case isList(t):
		parts(w, "[", listParts(t), (*writer).full, "]")
	default:
		inBrackets(w, t, (*writer).full, true)
	}
}

func (w *writer) constructor(name string) {
	switch name {
	case listName:
		w.put("[", "]")
	case unitName:
		w.put("(", ")")
	default:
		w.name(name)
	}
}

// isCall tells whether a term is an application that has no form of its own.
func isCall(t api.Term) bool {
	return t.Kind == api.TermApp && !isTuple(t) && !isList(t)
}

// isTuple tells whether a term is a tuple's constructor with all its parts.
func isTuple(t api.Term) bool {
	return heldBy(t, 2, pairName) || heldBy(t, 3, tripleName)
}

// heldBy tells whether a term is a constructor that is applied just so many times.
func heldBy(t api.Term, times int, name string) bool {
	for range times {
		if t.Kind != api.TermApp {
			return false
		}
		t = t.Args[0]
	}
	return t.Kind == api.TermCon && t.Name == name
}

func tupleParts(t api.Term) []api.Term {
	if heldBy(t, 2, pairName) {
		return []api.Term{t.Args[0].Args[1], t.Args[1]}
	}
	return []api.Term{t.Args[0].Args[0].Args[1], t.Args[0].Args[1], t.Args[1]}
}

func isList(t api.Term) bool {
	if t.Kind != api.TermApp {
		return false
	}
	for heldBy(t, 2, consName) {
		t = t.Args[1]
	}
	return t.Kind == api.TermCon && t.Name == listName
}

func listParts(t api.Term) []api.Term {
	var l []api.Term
	for t.Kind == api.TermApp {
		l = append(l, t.Args[0].Args[1])
		t = t.Args[1]
	}
	return l
}
