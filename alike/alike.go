// Package alike finds which nodes of types' graphs are alike (see shared/doc/09-canon.md). Layer 9 leans on it, and layer 12, which knows nothing of layer 9.
package alike

import (
	"slices"

	"trefoil/api"
)

// none is no arg.
const none = -1

// An arg is an Arg of a node: whose it is, its place there, and another one that is the same node.
type arg struct{ of, place, next int }

// A change is the class that the Arg of a place came to.
type change struct{ place, class int }

// A finder finds which nodes are alike: all are, till they look different.
type finder struct {
	nodes []api.Node
	classes
	args []arg // of all nodes, one behind the other
	last []int // of each node the last one of the args that are it
}

// Least is of each node the least one that it is alike to. The nodes must be such as may be, and their Args some of them.
func Least(nodes []api.Node) []int {
	f := finder{nodes: nodes, classes: newClasses(len(nodes))}
	f.findArgs()
	f.splitByNodes()
	for len(f.moved) > 0 {
		f.splitByArgs()
	}
	return f.least()
}

// findArgs keeps of each node which args are it.
func (f *finder) findArgs() {
	f.last = slices.Repeat([]int{none}, len(f.nodes))
	for at, n := range f.nodes {
		for place, to := range n.Args {
			f.args = append(f.args, arg{at, place, f.last[to]})
			f.last[to] = len(f.args) - 1
		}
	}
}

// splitByNodes parts nodes that differ by themselves, whatever their Args are.
func (f *finder) splitByNodes() {
	const start = 0
	l := newLooks[string](start + 1)
	for at, n := range f.nodes {
		switch n.Kind {
		case api.NCon:
			l.put(at, l.behind(start, n.Name))
		case api.NObj:
			if !n.Open {
				look := l.behind(start, "<")
				for _, label := range n.Labels {
					look = l.behind(look, label)
				}
				l.put(at, look)
				continue
			}
			fallthrough
		case api.NVar:
			f.split([]int{at}) // what is free is alike to itself alone
		}
	}
	f.splitAll(l.nodes)
}

// splitByArgs parts nodes of one class whose Args aren't of one class any more. The Args' classes were the same, place by place, before they were parted the last time; so it's enough to look at those that were moved, and at where they are now.
func (f *finder) splitByArgs() {
	l := newLooks[change](len(f.nodes))
	changed := f.changed()
	for len(changed) > 0 {
		at := f.args[changed[0]].of
		look := f.class[at]
		for len(changed) > 0 && f.args[changed[0]].of == at {
			place := f.args[changed[0]].place
			look = l.behind(look, change{place, f.class[f.nodes[at].Args[place]]})
			changed = changed[1:]
		}
		l.put(at, look)
	}
	f.splitAll(l.nodes)
}

// changed are the args that are nodes which were moved, rising, but for those of a node that is alone and can't be parted from any.
func (f *finder) changed() []int {
	var changed []int
	for _, to := range f.moved {
		for at := f.last[to]; at != none; at = f.args[at].next {
			if !f.alone(f.args[at].of) {
				changed = append(changed, at)
			}
		}
	}
	f.moved = nil
	slices.Sort(changed)
	return slices.Compact(changed)
}
