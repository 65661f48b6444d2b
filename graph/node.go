package graph

import (
	"trefoil/api"
	"trefoil/lex"
)

// isNode says whether a number is that of a node, of so many.
func isNode(at, size int) bool {
	return 0 <= at && at < size
}

// nodeMayBe says whether a node may be, in a graph of so many.
func nodeMayBe(n *api.Node, size int) bool {
	for _, arg := range n.Args {
		if !isNode(arg, size) {
			return false
		}
	}
	switch n.Kind {
	case api.NVar:
		return n.Name == "" && len(n.Args) == 0 && len(n.Labels) == 0 && !n.Open
	case api.NCon:
		args, known := argsOf(n.Name)
		return known && len(n.Args) == args && len(n.Labels) == 0 && !n.Open
	case api.NObj:
		return n.Name == "" && len(n.Args) == len(n.Labels) && labelsMayBe(n.Labels)
	}
	return false
}

// argsOf is how many Args an NCon has; false, if there is none of that name.
func argsOf(con string) (int, bool) {
	switch con {
	case "int", "bool", "string", "unit":
		return 0, true
	case "->", "*":
		return 2, true
	}
	return 0, false
}

// labelsMayBe says whether labels are names that rise.
func labelsMayBe(labels []string) bool {
	for i, label := range labels {
		if !lex.IsName(label) || i > 0 && labels[i-1] >= label {
			return false
		}
	}
	return true
}

func isFree(n *api.Node) bool {
	return n.Kind == api.NVar || n.Open
}
