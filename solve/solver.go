package solve

import (
	"errors"
	"strconv"

	"trefoil/api"
)

var (
	errKinds  = errors.New("a constructor and an object")
	errNames  = errors.New("constructors of two names")
	errLabels = errors.New("a label that an object hasn't, and may not have")
)

// A clash is what can't be one, with two nodes of which that is told.
type clash struct {
	a, b int
	why  error
}

func (c *clash) Error() string {
	return c.why.Error() + ": nodes " + strconv.Itoa(c.a) + " and " + strconv.Itoa(c.b)
}
func (c *clash) Unwrap() error { return c.why }

// none is no node.
const none = -1

// A class is nodes that are one.
type class struct {
	up          int // a node of it that is nearer to the one by which all of it is known; that one itself, if it's that one
	size, least int
	is          int     // the least node of it that is no variable
	all         *object // what its objects have, once it has more than one of them
}

// A solver makes nodes one. What is left to be made one stands in a list, and not in calls within calls: one pair may lead to as many as there are nodes.
type solver struct {
	nodes   []api.Node
	classes []class
	left    [][2]int
}

func newSolver(nodes []api.Node) *solver {
	s := solver{nodes: nodes, classes: make([]class, len(nodes))}
	for i := range nodes {
		s.classes[i] = class{up: i, size: 1, least: i, is: i}
		if nodes[i].Kind == api.NVar {
			s.classes[i].is = none
		}
	}
	return &s
}

// solve makes pairs one, and all that must be one then.
func (s *solver) solve(pairs [][2]int) error {
	for _, p := range pairs {
		s.left = append(s.left, p)
		for len(s.left) > 0 {
			last := len(s.left) - 1
			p := s.left[last]
			s.left = s.left[:last]
			if err := s.join(p[0], p[1]); err != nil {
				return &clash{p[0], p[1], err}
			}
		}
	}
	return nil
}

// of is the node by which a node's class is known.
func (s *solver) of(at int) int {
	for s.classes[at].up != at {
		up := s.classes[at].up
		s.classes[at].up = s.classes[up].up // so that the way is shorter the next time
		at = up
	}
	return at
}

func (s *solver) class(at int) *class { return &s.classes[s.of(at)] }

// join makes the classes of two nodes one. The lesser one is put below the greater one, so that ways stay short.
func (s *solver) join(a, b int) error {
	a, b = s.of(a), s.of(b)
	if a == b {
		return nil
	}
	if s.classes[a].size < s.classes[b].size {
		a, b = b, a
	}
	x, y := &s.classes[a], &s.classes[b]
	y.up = a
	x.size += y.size
	x.least = min(x.least, y.least)
	return s.agree(x, y)
}

// agree makes x what both classes are, and leaves their Args to come.
func (s *solver) agree(x, y *class) error {
	if y.is == none {
		return nil
	}
	if x.is == none {
		x.is, x.all = y.is, y.all
		return nil
	}
	n, m := &s.nodes[x.is], &s.nodes[y.is]
	switch {
	case n.Kind != m.Kind:
		return errKinds
	case n.Kind == api.NObj:
		return s.joinObjects(x, y)
	case n.Name != m.Name:
		return errNames
	}
	x.is = min(x.is, y.is)
	for i := range n.Args {
		s.left = append(s.left, [2]int{n.Args[i], m.Args[i]})
	}
	return nil
}

// answer is each class's node, in its place, with variables in all other places; and of each node its class's.
func (s *solver) answer() ([]api.Node, []int) {
	nodes, least := make([]api.Node, len(s.nodes)), make([]int, len(s.nodes))
	for i := range nodes {
		c := s.class(i)
		least[i] = c.least
		nodes[i] = api.Node{Kind: api.NVar}
		if i == c.least && c.is != none {
			nodes[i] = s.own(c)
		}
	}
	return nodes, least
}

// own is the node of a class that isn't a variable, in memory of its own.
func (s *solver) own(c *class) api.Node {
	var n api.Node
	if c.all != nil {
		n = c.all.node()
	} else {
		n = copied(&s.nodes[c.is])
	}
	for i, arg := range n.Args {
		n.Args[i] = s.class(arg).least
	}
	return n
}
