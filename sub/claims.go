package sub

import (
	"math"
	"slices"

	"trefoil/alike"
	"trefoil/api"
)

// A claim is that the one node may stand for the other one.
type claim struct{ low, high int }

// A prover looks for a claim that can't hold among all that the first one hangs on. Claims that go round hold, if none of them can't.
type prover struct {
	nodes []api.Node
	one   []int // of each node the one that claims tell in its place
	met   map[claim]struct{}
	left  []claim // those that were met, but not looked at
}

// mayStand says whether the one closed type may stand for the other one.
//
// Types that go round in m and in n nodes may need m times n claims, if nodes that are alike are told apart. To find out which are takes longer than most types need in all. So that is done only when there are more claims than types need whose nodes meet one each, as what stands and as what is stood for.
func mayStand(g, h api.Graph) bool {
	nodes := joined(g, h)
	first := claim{g.Root, len(g.N) + h.Root}
	holds, ended := prove(first, nodes, numbers(len(nodes)), 2*len(nodes))
	if !ended {
		holds, _ = prove(first, nodes, alike.Least(nodes), math.MaxInt)
	}
	return holds
}

// joined are the nodes of two graphs, those of the second one behind those of the first one.
func joined(g, h api.Graph) []api.Node {
	nodes := slices.Concat(g.N, h.N)
	for i := range h.N {
		n := &nodes[len(g.N)+i]
		n.Args = slices.Clone(n.Args)
		for place := range n.Args {
			n.Args[place] += len(g.N)
		}
	}
	return nodes
}

// numbers are so many, each in its own place.
func numbers(size int) []int {
	list := make([]int, size)
	for i := range list {
		list[i] = i
	}
	return list
}

// prove says whether a claim holds, and whether that took no more claims than it may. What is left stands in a list, not in calls within calls: a type may lead from each of its nodes to the next.
func prove(first claim, nodes []api.Node, one []int, most int) (holds, ended bool) {
	p := prover{nodes: nodes, one: one, met: map[claim]struct{}{}}
	p.meet(first.low, first.high)
	for len(p.left) > 0 {
		if len(p.met) > most {
			return false, false
		}
		last := len(p.left) - 1
		c := p.left[last]
		p.left = p.left[:last]
		if !p.look(&nodes[c.low], &nodes[c.high]) {
			return false, true
		}
	}
	return true, true
}

// meet leaves a claim to be looked at, unless it was met, or is that a type may stand for itself.
func (p *prover) meet(low, high int) {
	c := claim{p.one[low], p.one[high]}
	_, known := p.met[c]
	if !known && c.low != c.high {
		p.met[c] = struct{}{}
		p.left = append(p.left, c)
	}
}

// look meets the claims that a claim hangs on; false, if it can't hold.
func (p *prover) look(low, high *api.Node) bool {
	switch {
	case low.Kind != high.Kind || low.Name != high.Name:
		return false
	case low.Kind == api.NObj:
		return p.lookAtLabels(low, high)
	case low.Name == "->":
		p.meet(high.Args[0], low.Args[0]) // what is taken goes the other way
		p.meet(low.Args[1], high.Args[1])
	default:
		for i, arg := range low.Args {
			p.meet(arg, high.Args[i])
		}
	}
	return true
}

// lookAtLabels meets the claims that an object's claim hangs on; false, if a label isn't there. Each is searched for: an object of many labels may stand for many of few.
func (p *prover) lookAtLabels(low, high *api.Node) bool {
	for i, label := range high.Labels {
		place, has := slices.BinarySearch(low.Labels, label)
		if !has {
			return false
		}
		p.meet(low.Args[place], high.Args[i])
	}
	return true
}
