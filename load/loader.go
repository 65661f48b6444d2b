package load

import (
	"errors"

	"trefoil/api"
)

var (
	errTwice  = errors.New("a name that is bound twice")
	errItself = errors.New("a name that is nothing but itself")
)

// A fault is what is wrong with a name.
type fault struct {
	name string
	why  error
}

func (f *fault) Error() string { return f.why.Error() + ": '" + f.name }
func (f *fault) Unwrap() error { return f.why }

// A loader makes nodes of a type's parts: of each TCon and TObj, and of each name, though it may come to be bound only later on.
type loader struct {
	nodes []api.Node     // their Args are numbers of any nodes, of names that are bound, too
	is    []int          // of each node which one it is: of a name that is bound another one, of all else itself
	names map[string]int // what node a name has
}

// load is a type's graph, its nodes in any order; a type that may be.
func load(t *api.Type) (api.Graph, error) {
	l := loader{names: map[string]int{}}
	root, err := l.part(t)
	if err != nil {
		return api.Graph{}, err
	}
	return l.graph(root), nil
}

// part is the node of a part of a type. It calls itself: a type that may be isn't deeper than calls can go.
func (l *loader) part(t *api.Type) (int, error) {
	switch t.Kind {
	case api.TVar:
		return l.name(t.S), nil
	case api.TAs:
		arg, err := l.part(&t.Args[0])
		if err != nil {
			return 0, err
		}
		return arg, l.bind(t.S, arg)
	case api.TObj:
		return l.whole(api.Node{Kind: api.NObj, Labels: t.Labels, Open: t.Open}, t.Args)
	}
	return l.whole(api.Node{Kind: api.NCon, Name: t.S}, t.Args)
}

// whole adds a node, and the parts that are its Args.
func (l *loader) whole(n api.Node, parts []api.Type) (int, error) {
	at := l.add(n)
	args := make([]int, len(parts))
	for i := range parts {
		arg, err := l.part(&parts[i])
		if err != nil {
			return 0, err
		}
		args[i] = arg
	}
	l.nodes[at].Args = args
	return at, nil
}

func (l *loader) add(n api.Node) int {
	at := len(l.nodes)
	l.nodes = append(l.nodes, n)
	l.is = append(l.is, at)
	return at
}

func (l *loader) name(name string) int {
	at, known := l.names[name]
	if !known {
		at = l.add(api.Node{Kind: api.NVar})
		l.names[name] = at
	}
	return at
}

// bind makes a name mean another node. A name that is not bound is itself, so it can only come to mean itself by what binds it last.
func (l *loader) bind(name string, to int) error {
	at := l.name(name)
	if l.is[at] != at {
		return &fault{name, errTwice}
	}
	to = l.of(to)
	if to == at {
		return &fault{name, errItself}
	}
	l.is[at] = to
	return nil
}

// of is the node that a node is, once all names that are bound by now are gone through.
func (l *loader) of(at int) int {
	for l.is[at] != at {
		l.is[at] = l.is[l.is[at]] // so that the way is shorter the next time
		at = l.is[at]
	}
	return at
}

// graph is the nodes that are themselves, by new numbers.
func (l *loader) graph(root int) api.Graph {
	var nodes []api.Node
	number := make([]int, len(l.nodes))
	for at, n := range l.nodes {
		if l.is[at] == at {
			number[at] = len(nodes)
			nodes = append(nodes, n)
		}
	}
	for _, n := range nodes {
		for i, arg := range n.Args {
			n.Args[i] = number[l.of(arg)]
		}
	}
	return api.Graph{N: nodes, Root: number[l.of(root)]}
}
