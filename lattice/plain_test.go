package lattice_test

import (
	"regexp"
	"slices"
	"sync"

	"sloth/api"
)

// A second form of the chapter's words, which knows nothing of the package.

// plain is the elements of a type: which is below which, or the same; of a function type also what it takes and answers, and the results of each.
type plain struct {
	below    [][]bool
	from, to *plain
	lists    [][]int
}

func (p *plain) size() int { return len(p.below) }

// join is the one above both that is below all others above both.
func (p *plain) join(a, b int) int {
	isAbove := func(c int) bool { return p.below[a][c] && p.below[b][c] }
	for c := range p.size() {
		least := isAbove(c)
		for d := range p.size() {
			least = least && (!isAbove(d) || p.below[c][d])
		}
		if least {
			return c
		}
	}
	panic("no join")
}

// edge asks for each element what the words ask.
func (p *plain) edge(f, v int) []int {
	var l []int
	has := func(x int) bool { return p.to.below[v][p.lists[f][x]] }
	for x := range p.from.size() {
		least := has(x)
		for y := range p.from.size() {
			least = least && (y == x || !p.from.below[y][x] || !has(y))
		}
		if least {
			l = append(l, x)
		}
	}
	return l
}

func (p *plain) isMonotone(l []int) bool {
	if len(l) != p.from.size() {
		return false
	}
	for x, v := range l {
		if v < 0 || v >= p.to.size() {
			return false
		}
		for y, w := range l {
			if p.from.below[x][y] && (w < 0 || w >= p.to.size() || !p.to.below[v][w]) {
				return false
			}
		}
	}
	return true
}

func plainRow(size int) *plain {
	p := &plain{}
	for a := range size {
		p.below = append(p.below, make([]bool, size))
		for b := range size {
			p.below[a][b] = a <= b
		}
	}
	return p
}

// plainFunctions: nil, if there are too many.
func plainFunctions(from, to *plain) *plain {
	p := &plain{from: from, to: to}
	steps := stepsOf(from, to)
	if len(steps) > api.MaxLattice {
		return nil
	}
	if lists := eachList(from.size(), to.size()); lists != nil {
		p.lists = slices.DeleteFunc(lists, func(l []int) bool { return !p.isMonotone(l) })
	} else {
		p.lists = joined(steps, to)
	}
	if len(p.lists) > api.MaxLattice {
		return nil
	}
	slices.SortFunc(p.lists, slices.Compare)
	for _, f := range p.lists {
		row := make([]bool, len(p.lists))
		for i, g := range p.lists {
			row[i] = slices.EqualFunc(f, g, func(a, b int) bool { return to.below[a][b] })
		}
		p.below = append(p.below, row)
	}
	return p
}

// eachList is all lists of so many results; nil, if they are very many.
func eachList(length, results int) [][]int {
	lists := [][]int{{}}
	for range length {
		if len(lists)*results > 1500 {
			return nil
		}
		var longer [][]int
		for _, l := range lists {
			for v := range results {
				longer = append(longer, append(slices.Clone(l), v))
			}
		}
		lists = longer
	}
	return lists
}

// stepsOf is all steps: functions that are v, which is not 0, from one element on, and 0 elsewhere. No two are the same.
func stepsOf(from, to *plain) [][]int {
	var steps [][]int
	for x := range from.size() {
		for v := 1; v < to.size(); v++ {
			step := make([]int, from.size())
			for y := range step {
				if from.below[x][y] {
					step[y] = v
				}
			}
			steps = append(steps, step)
		}
	}
	return steps
}

// joined is all monotone functions in another way: each is a join of steps, that of none is 0 everywhere. Of too many it tells one more than may be.
func joined(steps [][]int, to *plain) [][]int {
	all := [][]int{make([]int, len(steps[0]))}
	has := func(l []int) bool {
		return slices.ContainsFunc(all, func(m []int) bool { return slices.Equal(l, m) })
	}
	for i := 0; i < len(all); i++ {
		for _, step := range steps {
			l := make([]int, len(step))
			for x := range l {
				l[x] = to.join(all[i][x], step[x])
			}
			if !has(l) {
				all = append(all, l)
			}
			if len(all) > api.MaxLattice {
				return all
			}
		}
	}
	return all
}

var (
	variableName = regexp.MustCompile(`^[a-z][a-zA-Z0-9_']*$`)
	dataName     = regexp.MustCompile(`^[A-Z][a-zA-Z0-9_']*(\.[A-Z][a-zA-Z0-9_']*)?$`)
)

// plainMayBe: chapter 5.
func plainMayBe(t api.Type) bool {
	for _, a := range t.Args {
		if !plainMayBe(a) {
			return false
		}
	}
	switch t.Kind {
	case api.TyInt:
		return t.Name == "" && len(t.Args) == 0
	case api.TyVar:
		return variableName.MatchString(t.Name) && len(t.Name) <= api.MaxName && len(t.Args) == 0
	case api.TyFun:
		return t.Name == "" && len(t.Args) == 2
	}
	return t.Kind == api.TyData && dataName.MatchString(t.Name) && t.Name != "Int" && len(t.Name) <= api.MaxName && len(t.Args) <= api.MaxParams
}

func plainNodes(t api.Type) int {
	nodes := 1
	for _, a := range t.Args {
		nodes += plainNodes(a)
	}
	return nodes
}

func plainHasVariable(t api.Type) bool {
	return t.Kind == api.TyVar || slices.ContainsFunc(t.Args, plainHasVariable)
}

// plainOf is what a type's elements are; nil, if it has none.
func plainOf(t api.Type) *plain {
	if !plainMayBe(t) || plainNodes(t) > api.MaxType || plainHasVariable(t) {
		return nil
	}
	return plainElements(t)
}

// What is known of function types already, as some of them take long.
var plainKnown = struct {
	sync.Mutex
	functions map[[2]*plain]*plain
}{functions: map[[2]*plain]*plain{}}

var plainTwo, plainFour = plainRow(2), plainRow(4)

func plainElements(t api.Type) *plain {
	switch {
	case t.Kind == api.TyFun:
		from, to := plainElements(t.Args[0]), plainElements(t.Args[1])
		if from == nil || to == nil {
			return nil
		}
		plainKnown.Lock()
		defer plainKnown.Unlock()
		p, ok := plainKnown.functions[[2]*plain{from, to}]
		if !ok {
			p = plainFunctions(from, to)
			plainKnown.functions[[2]*plain{from, to}] = p
		}
		return p
	case t.Kind != api.TyData || t.Name != "List":
		return plainTwo
	case len(t.Args) == 1:
		return plainFour
	}
	return nil
}

func sameList(a, b []int) bool { return slices.Equal(a, b) }
