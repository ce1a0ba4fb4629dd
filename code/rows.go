package code

import "sloth/api"

// What a number of an instruction is.
const (
	none     = iota // there is no such number: it is 0
	fromZero        // how many, or which place
	fromOne         // likewise, but not the top
	integer
	shape
	global
	operator
	target // an instruction
	reason // how it is stuck
)

// row says of an instruction with which word its text begins, and what its numbers are.
type row struct {
	word string
	a, b int
}

var rows = []row{
	api.OpPush:    {word: "push", a: fromZero},
	api.OpGlobal:  {word: "glob", a: global},
	api.OpInt:     {word: "int", a: integer},
	api.OpPop:     {word: "pop", a: fromZero},
	api.OpSlide:   {word: "slide", a: fromZero},
	api.OpApply:   {word: "apply"},
	api.OpUpdate:  {word: "update", a: fromOne},
	api.OpAlloc:   {word: "alloc", a: fromZero},
	api.OpPack:    {word: "pack", a: shape},
	api.OpSplit:   {word: "split", a: shape},
	api.OpEval:    {word: "eval"},
	api.OpArith:   {word: "arith", a: operator},
	api.OpJump:    {word: "jump", a: target},
	api.OpTestCon: {word: "testcon", a: shape, b: target},
	api.OpTestInt: {word: "testint", a: integer, b: target},
	api.OpFail:    {word: "fail", a: reason},
	api.OpUnwind:  {word: "unwind"},
}

var operators = []string{
	api.ArithAdd: "+",
	api.ArithSub: "-",
	api.ArithMul: "*",
	api.ArithDiv: "/",
	api.ArithRem: "%",
	api.ArithEq:  "==",
	api.ArithNe:  "/=",
	api.ArithLt:  "<",
	api.ArithLe:  "<=",
	api.ArithGt:  ">",
	api.ArithGe:  ">=",
}

func isOp(op int) bool { return api.OpPush <= op && op <= api.OpUnwind }

func isInteger(n int) bool { return api.MinInt <= n && n <= api.MaxInt }

// opOf tells the instruction whose text begins with a word; 0, if none does.
func opOf(word string) int {
	for op, r := range rows {
		if r.word == word && word != "" {
			return op
		}
	}
	return 0
}

// operatorOf tells the operator of a text; 0, if there is none.
func operatorOf(text string) int {
	for n, s := range operators {
		if s == text && text != "" {
			return n
		}
	}
	return 0
}

// numbers tells how many numbers an instruction has.
func numbers(op int) int {
	switch {
	case rows[op].b != none:
		return 2
	case rows[op].a != none:
		return 1
	}
	return 0
}

// eachNumber hands on the numbers of an instruction, with what each of them is.
func eachNumber(x api.Instr, put func(kind, n int)) {
	kind, n := rows[x.Op].a, x.A
	switch numbers(x.Op) {
	case 2:
		put(kind, n)
		kind, n = rows[x.Op].b, x.B
		fallthrough
	case 1:
		put(kind, n)
	}
}

// instrOf makes an instruction of the numbers that are taken for it.
func instrOf(op int, take func(kind int) int) api.Instr {
	x := api.Instr{Op: op}
	last, kind := &x.A, rows[op].a
	switch numbers(op) {
	case 2:
		x.A = take(kind)
		last, kind = &x.B, rows[op].b
		fallthrough
	case 1:
		*last = take(kind)
	}
	return x
}
