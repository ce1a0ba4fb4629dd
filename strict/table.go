package strict

import (
	"slices"

	"sloth/api"
)

// table gives an element of the result for each point. Points are numbered as their elements stand, the first one's the slowest.
type table struct {
	params  []*order
	result  *order
	points  int   // no more than enough to tell that they are too many
	results []int // of one that is known
}

func newTable(params []*order, result *order) table {
	t := table{params: params, result: result, points: 1}
	for _, o := range params {
		t.points = times(t.points, o.size)
	}
	return t
}

// consTable is what Cons makes of something with these elements and of a list.
func consTable(head, list *order) *table {
	t := newTable([]*order{head, list}, list)
	for x := range head.size {
		whole := 3
		if head.isKnown() && x == 0 {
			whole = 2
		}
		t.results = append(t.results, 1, 1, 2, whole)
	}
	return &t
}

// set lays a point's elements.
func (t *table) set(elements []int, point int) {
	for i, o := range slices.Backward(t.params) {
		elements[i] = point % o.size
		point /= o.size
	}
}

// definition is one of the program.
type definition struct {
	table
	place  int // among them
	name   string
	typ    api.Type
	known  bool
	weight int
	needs  []int // the places of those that its body speaks of
	body   node
	locals int // how many elements the body reckons with
}

// round works the table out anew from those that there are.
func (d *definition) round() []int {
	made, elements := make([]int, d.points), make([]int, d.locals)
	for point := range made {
		d.set(elements, point)
		made[point] = d.body.comes(elements)
	}
	return made
}

func (d *definition) signature() api.Signature {
	s := api.Signature{Name: d.name, Known: d.known, Args: make([]int, len(d.params))}
	if !d.known || !d.result.isPlain() {
		return s
	}
	step := 1
	for i, o := range slices.Backward(d.params) {
		if o.isKnown() {
			s.Args[i] = d.needed(o.size, step)
		}
		step *= o.size
	}
	return s
}

// needed tells a parameter's number, which has so many elements: from each to the next the number of the point, the greatest ones in all other places, grows by step.
func (d *definition) needed(size, step int) int {
	point := d.points - 1
	for number := size; number > 0; number-- {
		if d.results[point] == 0 {
			return number
		}
		point -= step
	}
	return 0
}
