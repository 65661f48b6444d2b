package env

import (
	"slices"

	"trefoil/api"
	"trefoil/graph"
)

// maxParams is how many parameters a class may have.
const maxParams = 100

// Class is a class's type: how many parameters it has, its graph, the methods that it has, and that it hasn't yet.
type Class struct {
	Params            int
	G                 api.Graph
	Concrete, Virtual []string
}

// CheckClass says whether a class's type may be, Fields are its fields' names.
func CheckClass(c Class) api.Errno {
	if e := graph.Check(c.G); e != api.OK {
		return e
	}
	_, object, found := c.parts()
	if !found || !areLabels(c.Concrete, c.Virtual, object.Labels) {
		return api.ErrArg
	}
	return api.OK
}

func Fields(c Class) []string {
	if CheckClass(c) != api.OK {
		return nil
	}
	fields, _, _ := c.parts()
	return slices.Clone(fields.Labels)
}

// parts are the nodes of a class's fields, and of the object itself; false, if they don't stand behind its parameters. Its graph must be one that may be: so a node with the Name -> or * is an NCon with two Args.
func (c Class) parts() (fields, object *api.Node, found bool) {
	if c.Params < 0 || c.Params > maxParams {
		return nil, nil, false
	}
	at := &c.G.N[c.G.Root]
	for range c.Params {
		if at.Name != "->" {
			return nil, nil, false
		}
		at = &c.G.N[at.Args[1]]
	}
	if at.Name != "*" {
		return nil, nil, false
	}
	fields, object = &c.G.N[at.Args[0]], &c.G.N[at.Args[1]]
	return fields, object, fields.Kind == api.NObj && !fields.Open && object.Kind == api.NObj
}

// areLabels says whether each label is in just one of two lists that rise, and nothing else is. Labels are names that rise: so lists rise, too, and have names, if each begins with the label that is asked for next.
func areLabels(concrete, virtual, labels []string) bool {
	for _, label := range labels {
		switch {
		case len(concrete) > 0 && concrete[0] == label:
			concrete = concrete[1:]
		case len(virtual) > 0 && virtual[0] == label:
			virtual = virtual[1:]
		default:
			return false
		}
	}
	return len(concrete) == 0 && len(virtual) == 0
}

// with is the same class with another graph, its lists in memory of their own.
func (c Class) with(g api.Graph) Class {
	return Class{Params: c.Params, G: g, Concrete: slices.Clone(c.Concrete), Virtual: slices.Clone(c.Virtual)}
}

// copied is a graph in memory of its own.
func copied(g api.Graph) api.Graph {
	nodes := make([]api.Node, len(g.N))
	for i, n := range g.N {
		n.Args, n.Labels = slices.Clone(n.Args), slices.Clone(n.Labels)
		nodes[i] = n
	}
	return api.Graph{N: nodes, Root: g.Root}
}
