package syntax

import (
	"strconv"
	"strings"

	"sloth/api"
)

// writer writes tokens, and gives up when there are more than Parse would take.
type writer struct {
	text   strings.Builder
	tokens int
	open   int // brackets
}

// The marks between tokens.
const (
	blank   = " "
	lineEnd = "\n"
)

// put writes tokens, and marks between them.
func (w *writer) put(texts ...string) {
	for _, text := range texts {
		w.count(text)
		if w.tokens > api.MaxTokens || w.open > api.MaxNest || w.text.Len()+len(text) > api.MaxText {
			panic(&api.Fault{Code: api.ErrBig})
		}
		w.text.WriteString(text)
	}
}

func (w *writer) count(text string) {
	if text != blank && text != lineEnd {
		w.tokens++
	}
	if opens(text) {
		w.open++
	}
	if closes(text) {
		w.open--
	}
}

// joined writes some things, with the same tokens between each two.
func joined[T any](w *writer, l []T, write func(*writer, T), between ...string) {
	for i, x := range l {
		if i > 0 {
			w.put(between...)
		}
		write(w, x)
	}
}

// trailed writes some things with a blank ahead of each.
func trailed[T any](w *writer, l []T, write func(*writer, T)) {
	for _, x := range l {
		w.put(blank)
		write(w, x)
	}
}

// ended writes some declarations, each on a line of its own.
func ended[T any](w *writer, l []T, write func(*writer, T)) {
	for _, x := range l {
		write(w, x)
		w.put(";", lineEnd)
	}
}

// inBrackets writes something in round brackets, if it must.
func inBrackets[T any](w *writer, x T, write func(*writer, T), must bool) {
	if !must {
		write(w, x)
		return
	}
	w.put("(")
	write(w, x)
	w.put(")")
}

// parts writes the parts of a tuple or list between two brackets.
func parts[T any](w *writer, open string, l []T, write func(*writer, T), closing string) {
	w.put(open)
	joined(w, l, write, ",", blank)
	w.put(closing)
}

func (w *writer) module(m api.Module) {
	w.put("module", blank, m.Name, ";", lineEnd)
	ended(w, m.Imports, (*writer).imported)
	ended(w, m.Datas, (*writer).data)
	ended(w, m.Fixes, (*writer).fixity)
	ended(w, m.Sigs, (*writer).sig)
	ended(w, m.Clauses, (*writer).clause)
}

func (w *writer) imported(i api.Import) {
	w.put("import", blank, i.Module)
	if i.Some {
		w.put(blank)
		parts(w, "(", i.Names, (*writer).name, ")")
	}
}

// isWord tells whether a name is written in letters, not as an operator.
func isWord(name string) bool {
	small := name[0] | 0x20
	return 'a' <= small && small <= 'z'
}

func (w *writer) word(name string) {
	w.put(name)
}

// name writes a name that is no operator between operands.
func (w *writer) name(name string) {
	inBrackets(w, name, (*writer).word, !isWord(name))
}

// infix writes a name as an operator.
func (w *writer) infix(name string) {
	if isWord(name) {
		w.put("`", name, "`")
		return
	}
	w.put(name)
}

func (w *writer) data(d api.Data) {
	w.put("data", blank, d.Name)
	trailed(w, d.Params, (*writer).word)
	w.put(blank, "=", blank)
	joined(w, d.Cons, (*writer).con, blank, "|", blank)
}

func (w *writer) con(c api.Con) {
	w.put(c.Name)
	trailed(w, c.Fields, (*writer).argType)
}

func (w *writer) fixity(f api.Fixity) {
	w.put(assocWord(f.Assoc), blank, strconv.Itoa(f.Level), blank)
	w.infix(f.Op)
}

func assocWord(assoc int) string {
	switch assoc {
	case api.AssocLeft:
		return "infixl"
	case api.AssocRight:
		return "infixr"
	}
	return "infix"
}

func (w *writer) sig(s api.Sig) {
	w.name(s.Name)
	w.put(blank, "::", blank)
	w.typ(s.Type)
}

func (w *writer) clause(c api.Clause) {
	w.name(c.Name)
	trailed(w, c.Pats, (*writer).argPat)
	w.put(blank, "=", blank)
	w.full(c.Body)
}

func (w *writer) typ(t api.Type) {
	switch {
	case t.Kind == api.TyFun:
		inBrackets(w, t.Args[0], (*writer).typ, t.Args[0].Kind == api.TyFun)
		w.put(blank, "->", blank)
		w.typ(t.Args[1])
	case t.Name == listName:
		parts(w, "[", t.Args, (*writer).typ, "]")
	case !isWord(t.Name):
		parts(w, "(", t.Args, (*writer).typ, ")")
	default:
		w.put(t.Name)
		trailed(w, t.Args, (*writer).argType)
	}
}

// argType writes a type as an argument.
func (w *writer) argType(t api.Type) {
	inBrackets(w, t, (*writer).typ, t.Kind == api.TyFun || len(t.Args) > 0 && isWord(t.Name))
}

func (w *writer) pat(p api.Pat) {
	switch {
	case p.Kind == api.PatWild:
		w.put("_")
	case p.Kind == api.PatInt:
		w.put(strconv.Itoa(p.Num))
	case p.Name == consName:
		inBrackets(w, p.Args[0], (*writer).pat, p.Args[0].Name == consName)
		w.put(blank, ":", blank)
		w.pat(p.Args[1])
	case p.Name == listName:
		w.put("[", "]")
	case !isWord(p.Name):
		parts(w, "(", p.Args, (*writer).pat, ")")
	default:
		w.put(p.Name)
		trailed(w, p.Args, (*writer).argPat)
	}
}

// argPat writes a pattern as an argument.
func (w *writer) argPat(p api.Pat) {
	inBrackets(w, p, (*writer).pat, len(p.Args) > 0 && (p.Name == consName || isWord(p.Name)))
}
