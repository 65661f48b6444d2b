package graph

import "trefoil/api"

// reach is a graph's nodes in order. It keeps what is left in a list of its own, and not in calls within calls: a graph may lead from each of its nodes to the next.
func reach(g api.Graph) []int {
	var order []int
	seen := make([]bool, len(g.N))
	left := [][]int{{g.Root}}
	for len(left) > 0 {
		at := takeFirst(&left)
		if seen[at] {
			continue
		}
		seen[at] = true
		order = append(order, at)
		if args := g.N[at].Args; len(args) > 0 {
			left = append(left, args)
		}
	}
	return order
}

// takeFirst takes the first item of the last list, and the list, once nothing is left of it.
func takeFirst(left *[][]int) int {
	lists := *left
	last := len(lists) - 1
	item := lists[last][0]
	lists[last] = lists[last][1:]
	if len(lists[last]) == 0 {
		*left = lists[:last]
	}
	return item
}

// trim is a graph's nodes in order, by new numbers.
func trim(g api.Graph) api.Graph {
	order := reach(g)
	number := make([]int, len(g.N))
	for i, at := range order {
		number[at] = i
	}
	nodes := make([]api.Node, len(order))
	for i, at := range order {
		nodes[i] = renumbered(&g.N[at], number)
	}
	return api.Graph{N: nodes}
}

// renumbered is a node with other numbers, in memory of its own.
func renumbered(n *api.Node, number []int) api.Node {
	answer := api.Node{Kind: n.Kind, Name: n.Name, Open: n.Open}
	answer.Labels = append(answer.Labels, n.Labels...)
	for _, arg := range n.Args {
		answer.Args = append(answer.Args, number[arg])
	}
	return answer
}
