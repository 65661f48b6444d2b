package graph

// classes are numbers that belong together. Each leads, by parent, to the one that stands for its class; size is of such a one how many its class has.
type classes struct{ parent, size []int }

// newClasses are so many numbers, each in a class of its own.
func newClasses(n int) classes {
	c := classes{make([]int, n), make([]int, n)}
	for i := range n {
		c.parent[i], c.size[i] = i, 1
	}
	return c
}

// of is the number that stands for another one's class.
func (c classes) of(x int) int {
	for c.parent[x] != x {
		c.parent[x] = c.parent[c.parent[x]] // so that the way is shorter the next time
		x = c.parent[x]
	}
	return x
}

// alone says whether a class has one number. It and join take those that stand for their classes.
func (c classes) alone(x int) bool { return c.size[x] == 1 }

// join makes two classes one. The lesser one is put below the greater one, so that ways stay short.
func (c classes) join(x, y int) {
	if c.size[x] < c.size[y] {
		x, y = y, x
	}
	c.parent[y] = x
	c.size[x] += c.size[y]
}
