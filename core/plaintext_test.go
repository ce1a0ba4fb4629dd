package core_test

import (
	"math/big"
	"regexp"
	"strconv"
	"strings"

	"sloth/api"
)

// A second form of Read and Print, by the chapter's words: a text is a tree of words, names and lists in brackets.

type tree struct {
	is   byte // '(' a list, '"' a name, 'w' a word
	text string
	list []tree
}

var pieces = regexp.MustCompile(`[()]|"(?:[ !#-\[\]-~]|\\["\\])*"|[!#-'*-~]+|[ \t\n\r]+`)

// plainTrees takes a text apart.
func plainTrees(text string) []tree {
	found := pieces.FindAllString(text, -1)
	refuse(strings.Join(found, "") != text, api.ErrCoreText)
	open, most := 0, 0
	for _, s := range found {
		switch s[0] {
		case '(':
			open++
		case ')':
			open = max(0, open-1)
		case '"':
			name := unquoted(s)
			refuse(len(name) < 1 || len(name) > api.MaxName, api.ErrCoreText)
		}
		most = max(most, open)
	}
	refuse(most > 16000, api.ErrNest)
	levels := []tree{{}}
	for _, s := range found {
		last := len(levels) - 1
		put := func(x tree) { levels[last].list = append(levels[last].list, x) }
		switch s[0] {
		case '(':
			levels = append(levels, tree{is: '('})
		case ')':
			refuse(last == 0, api.ErrCoreText)
			x := levels[last]
			levels, last = levels[:last], last-1
			put(x)
		case '"':
			put(tree{is: '"', text: unquoted(s)})
		case ' ', '\t', '\n', '\r':
		default:
			put(tree{is: 'w', text: s})
		}
	}
	refuse(len(levels) != 1, api.ErrCoreText)
	return levels[0].list
}

func unquoted(s string) string {
	return strings.NewReplacer(`\"`, `"`, `\\`, `\`).Replace(s[1 : len(s)-1])
}

// part is the piece of that number, which must be there and be of that sort.
func part(l []tree, i int, is byte) tree {
	refuse(i >= len(l) || is != 0 && l[i].is != is, api.ErrCoreText)
	return l[i]
}

func rest(l []tree, i int) []tree {
	refuse(i > len(l), api.ErrCoreText)
	return l[i:]
}

func ends(l []tree, n int) { refuse(len(l) != n, api.ErrCoreText) }

// plainRead reads what is known to be right.
func plainRead(text string) api.Program {
	p, code := plainReadText(text)
	refuse(code != api.OK, code)
	return p
}

func plainReadText(text string) (p api.Program, code api.Errno) {
	defer func() {
		if code != api.OK {
			p = api.Program{}
		}
	}()
	defer caught(&code)
	refuse(len(text) > 1<<22, api.ErrLong)
	for _, x := range plainTrees(text) {
		refuse(x.is != '(', api.ErrCoreText)
		switch head := part(x.list, 0, 'w').text; {
		case head == "data" && len(p.Defs) == 0:
			p.Datas = append(p.Datas, treeData(x.list))
		case head == "def":
			ends(x.list, 5)
			p.Defs = append(p.Defs, api.Def{Name: part(x.list, 1, '"').text, Params: treeParams(part(x.list, 2, '(')), Type: treeType(x.list[3]), Body: treeExpr(x.list[4])})
		default:
			refuse(true, api.ErrCoreText)
		}
	}
	refuse(plainSize(p) > api.MaxCore, api.ErrBig)
	for _, d := range p.Defs {
		refuse(plainDepth(d.Body) > api.MaxDeep, api.ErrNest)
	}
	return p, api.OK
}

func treeData(l []tree) api.Data {
	d := api.Data{Name: part(l, 1, 'w').text, Params: treeParams(part(l, 2, '('))}
	refuse(!plainTypeName(api.TyData, d.Name), api.ErrCoreText)
	for _, x := range l[3:] {
		refuse(x.is != '(', api.ErrCoreText)
		d.Cons = append(d.Cons, api.Con{Name: part(x.list, 0, '"').text, Fields: treeTypes(x.list[1:])})
	}
	return d
}

func treeParams(x tree) []string {
	var l []string
	for _, y := range x.list {
		refuse(y.is != 'w' || !plainTypeName(api.TyVar, y.text), api.ErrCoreText)
		l = append(l, y.text)
	}
	return l
}

func treeTypes(l []tree) []api.Type {
	var out []api.Type
	for _, x := range l {
		out = append(out, treeType(x))
	}
	return out
}

func treeType(x tree) api.Type {
	switch {
	case x.is == 'w' && x.text == "Int":
		return integer
	case x.is == 'w' && plainTypeName(api.TyVar, x.text):
		return variable(x.text)
	case x.is == 'w' && plainTypeName(api.TyData, x.text):
		return data(x.text)
	case x.is == '(' && len(x.list) == 3 && x.list[1].text == "->" && x.list[1].is == 'w':
		return fun(treeType(x.list[0]), treeType(x.list[2]))
	}
	refuse(x.is != '(' || len(x.list) < 2 || len(x.list) > 1+api.MaxParams, api.ErrCoreText)
	name := part(x.list, 0, 'w').text
	refuse(!plainTypeName(api.TyData, name), api.ErrCoreText)
	return data(name, treeTypes(x.list[1:])...)
}

func treeNumber(x tree) int {
	n, ok := new(big.Int).SetString(x.text, 10)
	refuse(x.is != 'w' || !ok || n.String() != x.text || !n.IsInt64(), api.ErrCoreText)
	i := int(n.Int64())
	refuse(i < -1<<62 || i >= 1<<62, api.ErrCoreText)
	return i
}

func treeExpr(x tree) api.Expr {
	switch x.is {
	case 'w':
		return num(treeNumber(x))
	case '"':
		return local(x.text)
	}
	l := x.list
	two := func(kind, from int, name string) api.Expr {
		ends(l, from+2)
		return api.Expr{Kind: kind, Name: name, Args: []api.Expr{treeExpr(l[from]), treeExpr(l[from+1])}}
	}
	switch part(l, 0, 'w').text {
	case "global":
		return global(part(l, 1, '"').text, treeTypes(l[2:])...)
	case "con":
		return con(part(l, 1, '"').text, treeTypes(l[2:])...)
	case "app":
		return two(api.ExprApp, 1, "")
	case "seq":
		return two(api.ExprSeq, 1, "")
	case "op":
		return two(api.ExprOp, 2, part(l, 1, 'w').text)
	case "lam":
		ends(l, 4)
		return lam(part(l, 1, '"').text, treeType(l[2]), treeExpr(l[3]))
	case "hard":
		ends(l, 5)
		return hard(part(l, 1, '"').text, treeType(l[2]), treeExpr(l[3]), treeExpr(l[4]))
	case "fail":
		ends(l, 3)
		return fail(treeNumber(l[1]), treeType(l[2]))
	case "let":
		ends(l, 3)
		return treeLet(part(l, 1, '(').list, l[2])
	case "case":
		return cases(treeExpr(part(l, 1, 0)), treeAlts(rest(l, 2))...)
	}
	panic(api.ErrCoreText)
}

func treeLet(l []tree, body tree) api.Expr {
	e := let(treeExpr(body))
	for _, x := range l {
		refuse(x.is != '(', api.ErrCoreText)
		ends(x.list, 3)
		e.Binds = append(e.Binds, api.Bind{Name: part(x.list, 0, '"').text, Type: treeType(x.list[1]), Value: treeExpr(x.list[2])})
	}
	return e
}

func treeAlts(list []tree) []api.Alt {
	var out []api.Alt
	for _, x := range list {
		refuse(x.is != '(', api.ErrCoreText)
		l := x.list
		switch part(l, 0, 'w').text {
		case "con":
			ends(l, 4)
			a := altCon(part(l, 1, '"').text, treeExpr(l[3]))
			for _, y := range part(l, 2, '(').list {
				refuse(y.is != '"', api.ErrCoreText)
				a.Vars = append(a.Vars, y.text)
			}
			out = append(out, a)
		case "int":
			ends(l, 3)
			out = append(out, altInt(treeNumber(l[1]), treeExpr(l[2])))
		case "else":
			ends(l, 2)
			out = append(out, altElse(treeExpr(l[1])))
		default:
			panic(api.ErrCoreText)
		}
	}
	return out
}

func plainPrint(p api.Program) (string, api.Errno) {
	if code := plainCheck(p); code != api.OK {
		return "", code
	}
	s := told(p)
	if len(s) > 1<<22 {
		return "", api.ErrBig
	}
	return s, api.OK
}

// told writes a program, whether it is right or not.
func told(p api.Program) string {
	var b strings.Builder
	for _, d := range p.Datas {
		l := []string{"data", d.Name, row(d.Params...)}
		for _, c := range d.Cons {
			l = append(l, row(append([]string{quoted(c.Name)}, toldTypes(c.Fields)...)...))
		}
		b.WriteString(row(l...) + "\n")
	}
	for _, d := range p.Defs {
		b.WriteString(row("def", quoted(d.Name), row(d.Params...), toldType(d.Type), toldExpr(d.Body)) + "\n")
	}
	return b.String()
}

func row(l ...string) string { return "(" + strings.Join(l, " ") + ")" }

func quoted(name string) string {
	return `"` + strings.NewReplacer(`"`, `\"`, `\`, `\\`).Replace(name) + `"`
}

func toldTypes(l []api.Type) []string {
	var out []string
	for _, t := range l {
		out = append(out, toldType(t))
	}
	return out
}

func toldType(t api.Type) string {
	switch {
	case t.Kind == api.TyInt:
		return "Int"
	case t.Kind == api.TyFun && len(t.Args) == 2:
		return row(toldType(t.Args[0]), "->", toldType(t.Args[1]))
	case len(t.Args) > 0:
		return row(append([]string{t.Name}, toldTypes(t.Args)...)...)
	}
	return t.Name
}

var heads = []string{"zero", "var", "int", "global", "con", "app", "lam", "let", "case", "op", "seq", "hard", "fail"}

func toldExpr(e api.Expr) string {
	switch e.Kind {
	case api.ExprVar:
		return quoted(e.Name)
	case api.ExprInt:
		return strconv.Itoa(e.Num)
	}
	l := []string{"kind " + strconv.Itoa(e.Kind)}
	if e.Kind >= 0 && e.Kind < len(heads) {
		l[0] = heads[e.Kind]
	}
	switch e.Kind {
	case api.ExprGlobal, api.ExprCon:
		l = append(l, quoted(e.Name))
	case api.ExprOp:
		l = append(l, e.Name)
	case api.ExprFail:
		l = append(l, strconv.Itoa(e.Num))
	}
	l = append(l, toldTypes(e.Types)...)
	var binds []string
	for _, b := range e.Binds {
		parts := []string{quoted(b.Name), toldType(b.Type)}
		if e.Kind != api.ExprLam {
			parts = append(parts, toldExpr(b.Value))
		}
		if e.Kind == api.ExprLet {
			parts = []string{row(parts...)}
		}
		binds = append(binds, parts...)
	}
	if e.Kind == api.ExprLet {
		binds = []string{row(binds...)}
	}
	l = append(l, binds...)
	for _, a := range e.Args {
		l = append(l, toldExpr(a))
	}
	for _, a := range e.Alts {
		l = append(l, toldAlt(a))
	}
	return row(l...)
}

func toldAlt(a api.Alt) string {
	var vars []string
	for _, name := range a.Vars {
		vars = append(vars, quoted(name))
	}
	switch a.Kind {
	case api.AltCon:
		return row("con", quoted(a.Con), row(vars...), toldExpr(a.Body))
	case api.AltInt:
		return row("int", strconv.Itoa(a.Num), toldExpr(a.Body))
	}
	return row("else", toldExpr(a.Body))
}
