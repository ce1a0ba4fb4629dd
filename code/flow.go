package code

import "sloth/api"

// flow goes through a global's code, all of whose numbers are right, once from the first instruction to the last one: since jumps go forward alone, all ways to an instruction are known when its turn comes.
type flow struct {
	shapes []api.Shape
	code   []api.Instr
	depths []int // with which each instruction is reached; 0: no way leads to it as yet
}

// wrongFlow tells what is wrong with the ways through a global's code and with its depths.
func wrongFlow(shapes []api.Shape, g *api.Global) api.Errno {
	if len(g.Code) == 0 {
		return api.ErrCodeFlow
	}
	f := flow{shapes: shapes, code: g.Code, depths: make([]int, len(g.Code))}
	f.depths[0] = g.Arity + 1
	for i := range f.code {
		if code := f.wrongAt(i); code != api.OK {
			return code
		}
	}
	return api.OK
}

func (f *flow) wrongAt(i int) api.Errno {
	x, depth := f.code[i], f.depths[i]
	if depth == 0 {
		return api.ErrCodeFlow
	}
	behind, ok := f.behind(x, depth)
	if !ok || behind > api.MaxCode {
		return api.ErrCodeStack
	}
	if goesOn(x.Op) {
		if i+1 == len(f.code) {
			return api.ErrCodeFlow
		}
		if !f.reach(i+1, behind) {
			return api.ErrCodeStack
		}
	}
	if to, ok := targetOf(x); ok && !f.reach(to, behind) {
		return api.ErrCodeStack
	}
	return api.OK
}

// reach notes that an instruction is reached with a depth, and tells whether that is the depth of all ways to it.
func (f *flow) reach(i, depth int) bool {
	if f.depths[i] == 0 {
		f.depths[i] = depth
	}
	return f.depths[i] == depth
}

// goesOn tells whether the next instruction may be done behind one.
func goesOn(op int) bool {
	return op != api.OpJump && op != api.OpFail && op != api.OpUnwind
}

// behind tells the depth behind an instruction, and whether the depth ahead is what it needs. (Of one that ends: the depth ahead.)
func (f *flow) behind(x api.Instr, depth int) (int, bool) {
	switch x.Op {
	case api.OpPush:
		return depth + 1, x.A < depth
	case api.OpGlobal, api.OpInt:
		return depth + 1, true
	case api.OpPop:
		return depth - x.A, x.A < depth
	case api.OpSlide:
		return depth - x.A, x.A < depth-1
	case api.OpApply, api.OpArith:
		return depth - 1, depth > 2
	case api.OpUpdate:
		return depth - 1, x.A < depth
	case api.OpAlloc:
		return depth + min(x.A, api.MaxCode), true // a greater sum might wrap
	case api.OpPack:
		fields := f.shapes[x.A].Fields
		return depth - fields + 1, fields < depth
	case api.OpSplit:
		return depth - 1 + f.shapes[x.A].Fields, depth > 1
	case api.OpEval, api.OpTestCon, api.OpTestInt:
		return depth, depth > 1
	case api.OpUnwind:
		return depth, depth == 1
	}
	return depth, true
}
