package peep_test

import (
	"sloth/api"
)

// graph runs a table as chapter 22 says, on nodes without number.
type graph struct {
	api.Table
	globals []*node
	frames  []*frame // the present one last
	waits   []*node  // to be told
	input   []int
	isGiven bool // the entry was given the input
	outcome api.Outcome
}

type node struct {
	kind, num int
	args      []*node
}

// frame works a node out: it unwinds, or (at 0 and up) runs the code of a global.
type frame struct {
	spine  []*node
	stands *node
	code   []api.Instr
	at     int
	stack  []*node
}

// over is a node passed over NodeInd.
func (n *node) over() *node {
	for n.kind == api.NodeInd && n.args[0] != n {
		n = n.args[0]
	}
	return n
}

// runTable runs an entry for so many steps.
func runTable(x api.Table, entry string, input []int, fuel int) api.Outcome {
	k := &graph{Table: x, input: input}
	for i, g := range x.Globals {
		k.globals = append(k.globals, &node{kind: api.NodeGlobal, num: i})
		if g.Name == entry {
			k.waits = []*node{k.globals[i]}
		}
	}
	k.outcome.Kind = api.OutOfFuel
	for k.outcome.Steps < fuel && k.outcome.Kind == api.OutOfFuel {
		k.outcome.Steps++
		k.step()
	}
	return k.outcome
}

func (k *graph) stuck(how int) { k.outcome.Kind, k.outcome.Stuck = api.Stuck, how }

func (k *graph) step() {
	if len(k.frames) == 0 {
		k.tell()
		return
	}
	f := k.frames[len(k.frames)-1]
	if f.stands != nil {
		k.unwind(f)
		return
	}
	x := f.code[f.at]
	f.at++
	k.instr(f, x)
}

func (k *graph) tell() {
	n := k.waits[0].over()
	switch n.kind {
	case api.NodeInt:
		k.outcome.Told = append(k.outcome.Told, api.Item{Num: n.num})
	case api.NodeCon:
		k.outcome.Told = append(k.outcome.Told, api.Item{Con: k.Shapes[n.num].Name})
	default:
		k.frames = []*frame{{stands: n}}
		return
	}
	k.waits = append(append([]*node{}, n.args...), k.waits[1:]...)
	if len(k.waits) == 0 {
		k.outcome.Kind = api.Done
	}
}

func (k *graph) unwind(f *frame) {
	n := f.stands.over()
	switch n.kind {
	case api.NodeApply:
		f.spine, f.stands = append(f.spine, n), n.args[0]
	case api.NodeGlobal:
		k.call(f, n)
	case api.NodeInt, api.NodeCon:
		if len(f.spine) > 0 {
			k.stuck(api.StuckForm)
			return
		}
		k.frames = k.frames[:len(k.frames)-1]
	case api.NodeInput:
		k.read(n)
	case api.NodeEmpty:
		k.stuck(api.StuckForm)
	default:
		k.stuck(api.StuckLoop)
	}
}

func (k *graph) read(n *node) {
	if n.num == len(k.input) {
		*n = node{kind: api.NodeCon, num: api.ShapeNil}
		return
	}
	*n = node{kind: api.NodeCon, num: api.ShapeCons, args: []*node{{kind: api.NodeInt, num: k.input[n.num]}, {kind: api.NodeInput, num: n.num + 1}}}
}

func (k *graph) call(f *frame, n *node) {
	g := k.Globals[n.num]
	rest := len(f.spine) - g.Arity
	if rest < 0 {
		k.lacks(f, n)
		return
	}
	redex := n
	var stack []*node
	if g.Arity > 0 {
		redex = f.spine[rest].over()
		stack = append(stack, redex)
		for _, a := range f.spine[rest:] {
			if a = a.over(); a.kind != api.NodeApply {
				k.stuck(api.StuckForm)
				return
			}
			stack = append(stack, a.args[1])
		}
	} else {
		stack = []*node{redex}
	}
	*redex = node{kind: api.NodeBusy}
	*f = frame{spine: f.spine[:rest], code: g.Code, stack: stack}
}

// lacks is of a function that lacks arguments.
func (k *graph) lacks(f *frame, n *node) {
	switch {
	case len(k.frames) > 1:
		k.frames = k.frames[:len(k.frames)-1]
	case !k.isGiven && len(k.outcome.Told) == 0 && len(k.waits) == 1:
		k.isGiven = true
		given := &node{kind: api.NodeApply, args: []*node{k.waits[0], {kind: api.NodeInput}}}
		k.waits[0] = given
		*f = frame{stands: given}
	default:
		k.stuck(api.StuckForm)
	}
}

// take takes the top ones from a stack, the top first.
func (f *frame) take(n int) []*node {
	var l []*node
	for range n {
		l = append(l, f.stack[len(f.stack)-1])
		f.stack = f.stack[:len(f.stack)-1]
	}
	return l
}

func (f *frame) push(n *node) { f.stack = append(f.stack, n) }

func (f *frame) top() *node { return f.stack[len(f.stack)-1].over() }

func (k *graph) instr(f *frame, x api.Instr) {
	switch x.Op {
	case api.OpPush:
		f.push(f.stack[len(f.stack)-1-x.A])
	case api.OpGlobal:
		f.push(k.globals[x.A])
	case api.OpInt:
		f.push(&node{kind: api.NodeInt, num: x.A})
	case api.OpPop:
		f.take(x.A)
	case api.OpSlide:
		n := f.take(1)[0]
		f.take(x.A)
		f.push(n)
	case api.OpApply:
		f.push(&node{kind: api.NodeApply, args: f.take(2)})
	case api.OpUpdate:
		n := f.stack[len(f.stack)-1-x.A].over()
		to := f.take(1)[0].over()
		*n = node{kind: api.NodeInd, args: []*node{to}}
	case api.OpAlloc:
		for range x.A {
			f.push(&node{kind: api.NodeEmpty})
		}
	case api.OpPack:
		f.push(&node{kind: api.NodeCon, num: x.A, args: f.take(k.Shapes[x.A].Fields)})
	case api.OpSplit:
		if f.top().kind != api.NodeCon || f.top().num != x.A {
			k.stuck(api.StuckForm)
			return
		}
		n := f.take(1)[0].over()
		for i := len(n.args) - 1; i >= 0; i-- {
			f.push(n.args[i])
		}
	case api.OpEval:
		if n := f.top(); n.kind != api.NodeInt && n.kind != api.NodeCon {
			k.frames = append(k.frames, &frame{stands: n})
		}
	case api.OpJump:
		f.at = x.A
	case api.OpUnwind:
		*f = frame{spine: f.spine, stands: f.stack[0]}
	default:
		k.looks(f, x)
	}
}

// looks is of instructions that want something of a form.
func (k *graph) looks(f *frame, x api.Instr) {
	switch x.Op {
	case api.OpArith:
		l := f.take(2)
		a, b := l[0].over(), l[1].over()
		if a.kind != api.NodeInt || b.kind != api.NodeInt {
			k.stuck(api.StuckForm)
			return
		}
		k.arith(f, x.A, a.num, b.num)
	case api.OpTestCon:
		if f.top().kind != api.NodeCon {
			k.stuck(api.StuckForm)
		} else if f.top().num != x.A {
			f.at = x.B
		}
	case api.OpTestInt:
		if f.top().kind != api.NodeInt {
			k.stuck(api.StuckForm)
		} else if f.top().num != x.A {
			f.at = x.B
		}
	case api.OpFail:
		k.stuck(x.A)
	}
}

func (k *graph) arith(f *frame, op, a, b int) {
	n := 0
	switch op {
	case api.ArithAdd:
		n = a + b
	case api.ArithSub:
		n = a - b
	case api.ArithMul:
		n = a * b
	case api.ArithDiv, api.ArithRem:
		if b == 0 {
			k.stuck(api.StuckZero)
			return
		}
		if n = a / b; op == api.ArithRem {
			n = a % b
		}
	default:
		is := map[int]bool{api.ArithEq: a == b, api.ArithNe: a != b, api.ArithLt: a < b, api.ArithLe: a <= b, api.ArithGt: a > b, api.ArithGe: a >= b}
		con := api.ShapeFalse
		if is[op] {
			con = api.ShapeTrue
		}
		f.push(&node{kind: api.NodeCon, num: con})
		return
	}
	f.push(&node{kind: api.NodeInt, num: n << 1 >> 1}) // the lowest 63 bits
}
