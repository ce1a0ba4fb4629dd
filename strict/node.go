package strict

import "slices"

// node is an expression of which all is known but the elements of local names and what stands in tables.
type node interface {
	// comes tells what it comes to by the elements of the locals, each at its place.
	comes(elements []int) int
}

// constant comes to one element in any case.
type constant int

func (c constant) comes([]int) int { return int(c) }

// local is a name, by the place of its element.
type local int

func (l local) comes(elements []int) int { return elements[l] }

// call is a definition, or Cons, with just as many arguments as it takes.
type call struct {
	of   *table
	args []node
}

func (c *call) comes(elements []int) int {
	if c.of.results == nil {
		return c.of.result.greatest()
	}
	return c.of.results[c.point(elements)]
}

// point is the number of the point that the arguments come to; of too few, that of its beginning.
func (c *call) point(elements []int) int {
	point := 0
	for i, a := range c.args {
		point = point*c.of.params[i].size + a.comes(elements)
	}
	return point
}

// short is a call that lacks arguments, of a function type that is known.
type short struct {
	call
	orders []*order // of the whole, of what that answers, and so on: one for each argument that it lacks
}

func (s *short) comes(elements []int) int {
	if s.of.results == nil {
		return s.orders[0].greatest()
	}
	size := 1
	for _, o := range s.orders {
		size *= o.from.size
	}
	from := s.point(elements) * size
	results := s.of.results[from : from+size]
	// from the last argument on, functions come in the place of their results
	for _, o := range slices.Backward(s.orders) {
		var made []int
		for part := range slices.Chunk(results, o.from.size) {
			made = append(made, o.find(part))
		}
		results = made
	}
	return results[0]
}

// applied is a function of a known type, given an argument.
type applied struct {
	order         *order
	function, arg node
}

func (a *applied) comes(elements []int) int {
	return a.order.results[a.function.comes(elements)][a.arg.comes(elements)]
}

// both is an operator with its operands.
type both struct{ a, b node }

func (b *both) comes(elements []int) int { return min(b.a.comes(elements), b.b.comes(elements)) }

// behind is something that comes to nothing, if what is worked out ahead of it does.
type behind struct{ ahead, body node }

func (b *behind) comes(elements []int) int {
	if b.ahead.comes(elements) == 0 {
		return 0
	}
	return b.body.comes(elements)
}

// lets is names with their values.
type lets struct {
	places []int
	values []node
	loops  bool // a value speaks of one of the names
	body   node
}

func (l *lets) comes(elements []int) int {
	for _, place := range l.places {
		elements[place] = 0
	}
	for changed := true; changed; {
		changed = l.rise(elements) && l.loops
	}
	return l.body.comes(elements)
}

// rise works all values out anew, and tells whether one has changed.
func (l *lets) rise(elements []int) bool {
	changed := false
	for i, place := range l.places {
		v := l.values[i].comes(elements)
		changed = changed || v != elements[place]
		elements[place] = v
	}
	return changed
}

// cases is an alternative of several, all of which count.
type cases struct {
	seen   node
	order  *order // of what the bodies come to
	bodies []node
}

func (c *cases) comes(elements []int) int {
	if c.seen.comes(elements) == 0 {
		return 0
	}
	return c.all(elements)
}

func (c *cases) all(elements []int) int {
	found := c.bodies[0].comes(elements)
	for _, b := range c.bodies[1:] {
		found = c.order.join(found, b.comes(elements))
	}
	return found
}

// listCases is an alternative of several by a list.
type listCases struct {
	*cases
	longer     node // the body that counts where the list begins with Cons
	head, tail int  // the places of the names of Cons; of no use, where it has no alternative
	greatest   int  // of the head's elements
}

func (c *listCases) comes(elements []int) int {
	list := c.seen.comes(elements)
	elements[c.head], elements[c.tail] = c.greatest, list
	switch list {
	case 0:
		return 0
	case 3:
		return c.all(elements)
	}
	found := c.longer.comes(elements)
	if list == 2 {
		elements[c.head], elements[c.tail] = 0, 3
		found = c.order.join(found, c.longer.comes(elements))
	}
	return found
}
