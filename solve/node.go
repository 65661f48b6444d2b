package solve

import (
	"slices"

	"trefoil/api"
)

// isNode says whether a number is that of a node, of so many.
func isNode(at, size int) bool { return 0 <= at && at < size }

// behind are some nodes, and behind them other ones, by their new numbers.
func behind(first, then []api.Node) []api.Node {
	nodes := append(make([]api.Node, 0, len(first)+len(then)), first...)
	for _, n := range then {
		args := make([]int, len(n.Args))
		for i, arg := range n.Args {
			args[i] = len(first) + arg
		}
		n.Args = args
		nodes = append(nodes, n)
	}
	return nodes
}

// copied is a node in memory of its own.
func copied(n *api.Node) api.Node {
	answer := *n
	answer.Args, answer.Labels = slices.Clone(n.Args), slices.Clone(n.Labels)
	return answer
}

// isTooGreat says whether there are more items than may be answered, when each node is as its class's.
func isTooGreat(nodes []api.Node, least []int) bool {
	var items int64
	for _, at := range least {
		items += 2 + int64(len(nodes[at].Args)) + int64(len(nodes[at].Labels))
	}
	return items > 1<<31-1
}
