package canon

import (
	"strconv"

	"trefoil/api"
)

// appendNode puts a node behind a text.
func appendNode(text []byte, n *api.Node) []byte {
	switch n.Kind {
	case api.NVar:
		text = append(text, 'v')
	case api.NObj:
		text = appendLabels(text, n)
		fallthrough // an object has no Name, but Args
	case api.NCon:
		text = append(text, n.Name...)
		for _, arg := range n.Args {
			text = strconv.AppendInt(append(text, ' '), int64(arg), 10)
		}
	}
	return text
}

// appendLabels puts what an object has of its own behind a text.
func appendLabels(text []byte, n *api.Node) []byte {
	text = append(text, '<')
	if n.Open {
		text = append(text, ".."...)
	}
	for _, label := range n.Labels {
		text = append(append(text, ' '), label...)
	}
	return text
}
