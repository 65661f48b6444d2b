package name

import "trefoil/api"

// A teller tells a least graph's nodes as types.
type teller struct {
	nodes    []api.Node
	isShared []bool
	names    map[int]int // of each node with a name that was come to how many names were given ahead of it
}

// tell is a node's type, whose root is so deep; false, if it is deeper than it may be. It calls itself no deeper than that.
func (t *teller) tell(at, deep int) (api.Type, bool) {
	isVar := t.nodes[at].Kind == api.NVar
	if !isVar && !t.isShared[at] {
		return t.body(at, deep)
	}
	number, known := t.names[at]
	if !known {
		number = len(t.names)
		t.names[at] = number
	}
	name := Name(number)
	if known || isVar {
		return api.Type{Kind: api.TVar, S: name}, deep <= api.MaxDeep
	}
	body, ok := t.body(at, deep+1)
	return api.Type{Kind: api.TAs, S: name, Args: []api.Type{body}}, ok
}

// body is the type of a node that is no NVar, but for its name.
func (t *teller) body(at, deep int) (api.Type, bool) {
	if deep > api.MaxDeep {
		return api.Type{}, false
	}
	n := &t.nodes[at]
	answer := api.Type{Kind: api.TCon, S: n.Name, Labels: n.Labels, Open: n.Open}
	if n.Kind == api.NObj {
		answer.Kind = api.TObj
	}
	for _, arg := range n.Args {
		part, ok := t.tell(arg, deep+1)
		if !ok {
			return api.Type{}, false
		}
		answer.Args = append(answer.Args, part)
	}
	return answer, true
}

// shared says of each node of a least graph whether it is shared.
func shared(g api.Graph) []bool {
	places := make([]int, len(g.N))
	places[g.Root]++
	for _, n := range g.N {
		for _, arg := range n.Args {
			places[arg]++
		}
	}
	is := make([]bool, len(g.N))
	for at, n := range g.N {
		is[at] = places[at] > 1 && (len(n.Args) > 0 || n.Open)
	}
	return is
}
