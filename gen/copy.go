package gen

import "trefoil/api"

// fresh is a graph's nodes, and behind them a copy of some, in which those nodes' copies stand for them.
func fresh(g api.Graph, copied []int) api.Graph {
	becomes := make([]int, len(g.N))
	for at := range becomes {
		becomes[at] = at
	}
	all := make([]api.Node, 0, len(g.N)+len(copied))
	for i := range g.N {
		all = append(all, renumbered(&g.N[i], becomes))
	}
	for i, at := range copied {
		becomes[at] = len(g.N) + i
	}
	for _, at := range copied {
		all = append(all, renumbered(&g.N[at], becomes))
	}
	return api.Graph{N: all, Root: becomes[g.Root]}
}

// renumbered is a node with other Args, in memory of its own.
func renumbered(n *api.Node, becomes []int) api.Node {
	answer := api.Node{Kind: n.Kind, Name: n.Name, Open: n.Open}
	answer.Labels = append(answer.Labels, n.Labels...)
	for _, arg := range n.Args {
		answer.Args = append(answer.Args, becomes[arg])
	}
	return answer
}
