package graph

import (
	"slices"

	"trefoil/api"
)

// A pair is a node of the one graph, and a node of the other one.
type pair struct{ a, b int }

// A match is what is known of two graphs whose nodes are matched.
type match struct {
	a, b    []api.Node
	looked  map[pair]struct{}
	left    []pair
	classes classes
}

func same(g, h api.Graph) bool {
	m := match{a: g.N, b: h.N, looked: map[pair]struct{}{}, classes: newClasses(len(g.N) + len(h.N))}
	m.look(pair{g.Root, h.Root})
	for len(m.left) > 0 {
		last := len(m.left) - 1
		p := m.left[last]
		m.left = m.left[:last]
		if !m.fits(p) {
			return false
		}
	}
	return true
}

// look leaves a pair to come, unless it was looked at.
func (m *match) look(p pair) {
	if _, ok := m.looked[p]; !ok {
		m.looked[p] = struct{}{}
		m.left = append(m.left, p)
	}
}

// fits says whether the nodes of a pair may be matched, and leaves their Args to come.
//
// Nodes that are matched with one another, by whatever way, are a class. A pair of one class tells nothing new: so types that go round in m and in n nodes need no more than m + n pairs, and not all m times n.
func (m *match) fits(p pair) bool {
	x, y := &m.a[p.a], &m.b[p.b]
	a, b := m.classes.of(p.a), m.classes.of(len(m.a)+p.b)
	if a == b {
		return true
	}
	if !alike(x, y) {
		return false
	}
	// A free node that was matched is no longer alone in its class.
	if isFree(x) && !(m.classes.alone(a) && m.classes.alone(b)) {
		return false
	}
	m.classes.join(a, b)
	for i := range x.Args {
		m.look(pair{x.Args[i], y.Args[i]})
	}
	return true
}

// alike says whether two nodes are, their Args aside.
func alike(x, y *api.Node) bool {
	return x.Kind == y.Kind && x.Name == y.Name && x.Open == y.Open && slices.Equal(x.Labels, y.Labels)
}
