package inst

import (
	"slices"

	"trefoil/api"
)

// A matcher matches the nodes of a graph with those of a least one.
//
// No two nodes of a least graph are alike. So a node of g that isn't free has no more than one to be matched with, as a free one has: if it had two, these would be of one Kind, Name and Labels, none of them free, and so would be what their Args are, one by one; nothing would tell them apart.
type matcher struct {
	g, h []api.Node
	with map[int]int // whom a node of g is matched with
	left []int       // nodes of g that are matched, but whose Args weren't looked at
}

// matches says whether a graph's Root may be matched with that of a least one. What is left stands in a list, not in calls within calls: a graph may lead from each of its nodes to the next.
func matches(g, h api.Graph) bool {
	m := matcher{g: g.N, h: h.N, with: map[int]int{}}
	ok := m.match(g.Root, h.Root)
	for ok && len(m.left) > 0 {
		last := len(m.left) - 1
		at := m.left[last]
		m.left = m.left[:last]
		ok = m.matchArgs(&m.g[at], &m.h[m.with[at]])
	}
	return ok
}

// match matches a node with one of the least graph; false, if it is matched with another one.
func (m *matcher) match(at, to int) bool {
	was, known := m.with[at]
	if known {
		return was == to
	}
	m.with[at] = to
	m.left = append(m.left, at)
	return true
}

// matchArgs matches the Args of a node with those of the one that it is matched with; false, if these two, or their Args, may not be matched.
func (m *matcher) matchArgs(n, to *api.Node) bool {
	switch n.Kind {
	case api.NVar:
		return true
	case api.NObj:
		if n.Open {
			return to.Kind == api.NObj && m.matchLabels(n, to)
		}
		fallthrough
	default:
		return n.Kind == to.Kind && n.Name == to.Name && n.Open == to.Open && slices.Equal(n.Labels, to.Labels) && m.matchAll(n.Args, to.Args)
	}
}

// matchAll matches nodes, one by one, with as many.
func (m *matcher) matchAll(args, to []int) bool {
	for i, arg := range args {
		if !m.match(arg, to[i]) {
			return false
		}
	}
	return true
}

// matchLabels matches what an open object has with what another object has by the same labels; false, if that one hasn't all of them. Each is searched for: many objects of few labels may be matched with one of many.
func (m *matcher) matchLabels(n, to *api.Node) bool {
	for i, label := range n.Labels {
		place, has := slices.BinarySearch(to.Labels, label)
		if !has || !m.match(n.Args[i], to.Args[place]) {
			return false
		}
	}
	return true
}
