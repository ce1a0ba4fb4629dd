package fixity_test

import (
	"fmt"
	"math/rand"
	"slices"
	"strings"
	"testing"
)

// maker writes sources at random that Bind takes, with faults of fixity and without.
type maker struct {
	*rand.Rand
	levels []int // of the fixities that it declares
	sides  []string
	most   int // operators of a row
	simple bool
}

func pick[T any](r *rand.Rand, l ...T) T { return l[r.Intn(len(l))] }

// newMaker: some declare few levels and one side only, so that rows have a tree; some write short rows.
func newMaker(r *rand.Rand) *maker {
	k := &maker{Rand: r}
	k.levels = pick(k.Rand, []int{0, 1, 2, 3, 4, 5, 6, 7, 8, 9}, []int{3, 6}, []int{5}, []int{8, 2, 9})
	k.sides = pick(k.Rand, []string{"infixl"}, []string{"infixr"}, []string{"infixl", "infixr", "infix"})
	k.most = pick(k.Rand, 1, 2, 3, 6)
	return k
}

// defined writes definitions of operators, written as they stand between operands, and fixities of most of them.
func (k *maker) defined(ops string) string {
	var lines []string
	for _, op := range strings.Fields(ops) {
		name := "(" + op + ")"
		if op[0] == '`' {
			name = strings.Trim(op, "`")
		}
		lines = append(lines, name+" a b = a;")
		if k.Intn(4) > 0 {
			lines = append(lines, fmt.Sprint(pick(k.Rand, k.sides...), " ", pick(k.Rand, k.levels...), " ", op, ";"))
		}
	}
	k.Shuffle(len(lines), func(i, j int) { lines[i], lines[j] = lines[j], lines[i] })
	return strings.Join(lines, " ")
}

// world writes two modules, in any order: the one imports the other.
func (k *maker) world() []string {
	lib := "module Lib; " + k.defined("<+> +> ? `f`") + k.clauses("<+> +> ? `f` `Lib.f` + * : ==")
	main := "module Main; import Lib; data T = K Int Int; " + k.defined("& |> `g`") +
		k.clauses("<+> +> ? `f` `Lib.f` & |> `g` `Main.g` `K` `seq` `a` + - * / % : == <")
	return pick(k.Rand, []string{lib, main}, []string{main, lib})
}

func (k *maker) clauses(ops string) string {
	s := ""
	for i := range 1 + k.Intn(3) {
		body := k.expr(k.Intn(3), strings.Fields(ops))
		if k.Intn(40) == 0 { // as deep as may be, or deeper
			body = strings.Repeat("1 + ", 497+k.Intn(4)) + k.expr(1, []string{"+", "*", "%"})
		}
		s += fmt.Sprintf("x%d a b c = %s; ", i, body)
	}
	return s
}

// row writes operands and operators; no operand takes an operator behind it.
func (k *maker) row(depth int, ops []string) string {
	s := k.operand(depth, ops)
	for range k.Intn(k.most + 1) {
		s += " " + pick(k.Rand, ops...) + " " + k.operand(depth, ops)
	}
	return s
}

// expr writes a row; its last operand may go on to the end.
func (k *maker) expr(depth int, ops []string) string {
	s := k.row(depth, ops)
	if depth > 0 && k.Intn(3) == 0 && !k.simple {
		s += " " + pick(k.Rand, ops...) + " " + k.open(depth, ops)
	}
	return s
}

func (k *maker) operand(depth int, ops []string) string {
	if depth == 0 || k.Intn(3) == 0 {
		return pick(k.Rand, "a", "b", "c", "1", "[]", "a b")
	}
	inner := func() string { return k.expr(depth-1, ops) }
	kinds := 8
	if k.simple {
		kinds = 4
	}
	switch k.Intn(kinds) {
	case 0:
		return "(" + inner() + ")"
	case 1:
		return "(" + k.row(depth-1, ops) + " " + pick(k.Rand, ops...) + ")"
	case 2:
		return "(" + pick(k.Rand, ops...) + " " + inner() + ")"
	case 3:
		return "a (" + inner() + ")"
	case 4:
		return "(" + inner() + ", " + inner() + ")"
	case 5:
		return "[" + inner() + ", " + inner() + "]"
	case 6:
		return "case " + inner() + " of { 1 -> " + inner() + "; (b : _) -> " + inner() + " }"
	}
	return "(" + k.open(depth, ops) + ")"
}

// open writes what goes on as far to the right as it can.
func (k *maker) open(depth int, ops []string) string {
	depth--
	local := slices.Concat(ops, []string{"@@", "`w`"})
	switch k.Intn(4) {
	case 0:
		return "if " + k.expr(depth, ops) + " then " + k.expr(depth, ops) + " else " + k.expr(depth, ops)
	case 1:
		return `\(b, w) c -> ` + k.expr(depth, append(ops[:len(ops):len(ops)], "`w`"))
	case 2:
		return "let { (@@) a b = " + k.expr(depth, local) + "; w = " + k.expr(depth, local) + " } in " + k.expr(depth, local)
	}
	return "let { (+>) a b = " + k.expr(depth, ops) + "; f 0 = " + k.expr(depth, ops) + "; f c = a } in " + k.expr(depth, ops)
}

// sources hands on many sources, none of them long.
func sources(t *testing.T, seed int64, times int, do func(texts []string)) {
	t.Helper()
	r := rand.New(rand.NewSource(seed))
	for range times {
		if texts := newMaker(r).world(); len(texts[0])+len(texts[1]) < 6000 {
			do(texts)
		}
		if t.Failed() {
			return
		}
	}
}
