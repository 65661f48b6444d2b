package gen

import "trefoil/api"

// reached says of each node whether some nodes reach it: whether it is one of them, or they lead to it.
func reached(nodes []api.Node, from []int) []bool {
	return spread(len(nodes), from, func(at int) []int { return nodes[at].Args })
}

// leading says of each node whether it is one of some, or leads to one: whether the same ways, gone back, come to it.
func leading(nodes []api.Node, to []int) []bool {
	first, back := backward(nodes)
	return spread(len(nodes), to, func(at int) []int { return back[first[at]:first[at+1]] })
}

// spread says of each of so many nodes whether it is one of some, or is come to from these by what is next to each. What is left stands in a list, not in calls within calls: a graph may lead from each of its nodes to the next.
func spread(size int, from []int, next func(at int) []int) []bool {
	seen := make([]bool, size)
	var left []int
	visit := func(nodes []int) {
		for _, at := range nodes {
			if !seen[at] {
				seen[at] = true
				left = append(left, at)
			}
		}
	}
	visit(from)
	for len(left) > 0 {
		last := len(left) - 1
		at := left[last]
		left = left[:last]
		visit(next(at))
	}
	return seen
}

// backward are the nodes that have each one as an Arg, those of all nodes in one list: those of node i stand from first[i] up to first[i+1].
func backward(nodes []api.Node) (first, back []int) {
	first = make([]int, len(nodes)+2)
	for i := range nodes {
		for _, arg := range nodes[i].Args {
			first[arg+2]++
		}
	}
	for i := 2; i < len(first); i++ {
		first[i] += first[i-1]
	}
	// Till all are put, first[i+1] is where the next one of node i goes, and so comes to where those of node i+1 begin.
	back = make([]int, first[len(nodes)+1])
	for i := range nodes {
		for _, arg := range nodes[i].Args {
			back[first[arg+1]] = i
			first[arg+1]++
		}
	}
	return first[:len(nodes)+1], back
}
