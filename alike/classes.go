package alike

import "slices"

// classes are nodes that stand together till they are told apart.
type classes struct {
	order []int  // all nodes, class by class
	place []int  // of each node where it stands in order
	class []int  // of each node its class's number
	spans []span // of each class where it stands in order
	moved []int  // the nodes whose class got another number, some perhaps twice
}

// A span is some places, from the first one up to the one behind the last.
type span struct{ first, end int }

func (s span) size() int { return s.end - s.first }

// newClasses are so many nodes, all of them in the class 0.
func newClasses(size int) classes {
	c := classes{order: make([]int, size), place: make([]int, size), class: make([]int, size), spans: []span{{0, size}}}
	for at := range size {
		c.order[at], c.place[at] = at, at
	}
	return c
}

// split parts some nodes of one class from its others. The lesser part is the one that gets a new number: so a node's number changes no more often than its class can be halved.
func (c *classes) split(part []int) {
	class := c.class[part[0]]
	s := c.spans[class]
	if len(part) == s.size() {
		return
	}
	for i, at := range part {
		c.swap(c.place[at], s.first+i)
	}
	front, back := span{s.first, s.first + len(part)}, span{s.first + len(part), s.end}
	if front.size() > back.size() {
		front, back = back, front
	}
	c.spans[class] = back
	for _, at := range c.order[front.first:front.end] {
		c.class[at] = len(c.spans)
		c.moved = append(c.moved, at)
	}
	c.spans = append(c.spans, front)
}

// splitAll parts nodes of each list from the others of their class.
func (c *classes) splitAll(parts [][]int) {
	for _, part := range parts {
		if len(part) > 0 {
			c.split(part)
		}
	}
}

// swap makes two nodes stand in each other's places.
func (c *classes) swap(a, b int) {
	x, y := c.order[a], c.order[b]
	c.order[a], c.order[b] = y, x
	c.place[x], c.place[y] = b, a
}

// alone says whether a node is the one of its class.
func (c *classes) alone(at int) bool { return c.spans[c.class[at]].size() == 1 }

// least is of each node the least one of its class.
func (c *classes) least() []int {
	first := make([]int, len(c.spans))
	for at, class := range slices.Backward(c.class) {
		first[class] = at
	}
	least := make([]int, len(c.class))
	for at, class := range c.class {
		least[at] = first[class]
	}
	return least
}
