package alike

// A step is how the one look comes of another one.
type step[T comparable] struct {
	was int
	by  T
}

// looks are what nodes look like, told step by step: a look is a number, and the same steps from the same number on lead to the same one. So lists of any length are told apart, and no list need be kept.
type looks[T comparable] struct {
	first  int // the least number to which a step may lead; numbers below it are such as looks begin with
	number map[step[T]]int
	nodes  [][]int // of each number, from first on, the nodes that look so
}

func newLooks[T comparable](first int) *looks[T] {
	return &looks[T]{first: first, number: map[step[T]]int{}}
}

// behind is the look to which a step leads.
func (l *looks[T]) behind(was int, by T) int {
	s := step[T]{was, by}
	look, known := l.number[s]
	if !known {
		look = l.first + len(l.nodes)
		l.number[s] = look
		l.nodes = append(l.nodes, nil)
	}
	return look
}

// put puts a node to the others that look so.
func (l *looks[T]) put(node, look int) {
	at := look - l.first
	l.nodes[at] = append(l.nodes[at], node)
}
