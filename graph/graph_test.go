package graph_test

import (
	"math"
	"reflect"
	"slices"
	"strings"
	"testing"

	"trefoil/api"
	"trefoil/graph"
)

var (
	longest = strings.Repeat("a", api.MaxName)
	tooLong = longest + "a"
	v       = api.Node{Kind: api.NVar}
	integer = con("int")
)

func con(name string, args ...int) api.Node {
	return api.Node{Kind: api.NCon, Name: name, Args: args}
}
func arrow(a, b int) api.Node { return con("->", a, b) }
func times(a, b int) api.Node { return con("*", a, b) }
func shut(labels string, args ...int) api.Node {
	return api.Node{Kind: api.NObj, Labels: strings.Fields(labels), Args: args}
}
func open(labels string, args ...int) api.Node {
	n := shut(labels, args...)
	n.Open = true
	return n
}
func rooted(root int, nodes ...api.Node) api.Graph { return api.Graph{N: nodes, Root: root} }
func nodes(list ...api.Node) api.Graph             { return rooted(0, list...) }

// repeated is a graph of so many nodes.
func repeated(size, root int, n api.Node) api.Graph {
	return api.Graph{N: slices.Repeat([]api.Node{n}, size), Root: root}
}

// sameNodes says whether two graphs are told alike, node by node (nil and empty are one).
func sameNodes(g, h api.Graph) bool {
	return g.Root == h.Root && slices.EqualFunc(g.N, h.N, func(x, y api.Node) bool {
		return x.Kind == y.Kind && x.Name == y.Name && x.Open == y.Open && slices.Equal(x.Args, y.Args) && slices.Equal(x.Labels, y.Labels)
	})
}

// allNodes are nodes that may be, in a graph of three or more.
var allNodes = []api.Node{
	v, integer, con("bool"), con("string"), con("unit"), arrow(0, 0), arrow(2, 1), times(0, 2), times(1, 1),
	shut(""), open(""), shut("m", 0), open("m", 2), shut("_ a aB aa b", 0, 1, 2, 2, 0), open("a1 a2 m", 1, 1, 1), shut(longest, 0), shut("int x", 0, 0),
	{Kind: api.NVar, Args: []int{}, Labels: []string{}}, {Kind: api.NCon, Name: "int", Args: []int{}, Labels: []string{}}, {Kind: api.NObj, Args: []int{}, Labels: []string{}},
}

// badNodes are nodes that may not be, in a graph of three.
func badNodes() []api.Node {
	list := []api.Node{
		{}, {Kind: 4}, {Kind: -1}, {Kind: math.MaxInt}, {Kind: math.MinInt}, {Name: "int"}, {Open: true},
		{Kind: api.NVar, Name: "a"}, {Kind: api.NVar, Args: []int{0}}, {Kind: api.NVar, Labels: []string{"m"}}, {Kind: api.NVar, Labels: []string{"m"}, Args: []int{0}}, {Kind: api.NVar, Open: true},
		con(""), con("x"), con("Int"), con("int "), con("**", 0, 0), con("obj"), con("-> ", 0, 0),
		con("->"), con("*"), con("->", 0), con("*", 0), con("->", 0, 0, 0), con("*", 0, 0, 0),
		{Kind: api.NCon, Name: "int", Labels: []string{"m"}}, {Kind: api.NCon, Name: "->", Labels: []string{"m", "n"}, Args: []int{0, 0}}, {Kind: api.NCon, Name: "int", Open: true}, {Kind: api.NCon, Name: "*", Args: []int{0, 0}, Open: true},
		{Kind: api.NObj, Name: "int"}, {Kind: api.NObj, Name: "m", Labels: []string{"m"}, Args: []int{0}},
		shut("m"), open("m"), shut("", 0), shut("m", 0, 0), open("m n", 0), shut("m m", 0, 0), open("n m", 0, 0), shut("a b b", 0, 0, 0), shut("b c a", 0, 0, 0), shut("a B", 0, 0), shut("a _", 0, 0),
	}
	for _, base := range []string{"int", "bool", "string", "unit"} {
		list = append(list, con(base, 0), con(base, 0, 0))
	}
	for _, label := range []string{"", "A", "1", "a b", "'a", "let", "virtual", "as", "é", "a\x00", "a ", tooLong} {
		list = append(list, api.Node{Kind: api.NObj, Labels: []string{label}, Args: []int{0}}, api.Node{Kind: api.NObj, Labels: []string{"0", label}[1:], Args: []int{0}, Open: true})
	}
	for _, at := range []int{-1, 3, 4, api.MaxNodes, math.MaxInt, math.MinInt} {
		list = append(list, arrow(at, 0), arrow(0, at), times(at, at), shut("m", at), open("m n", 0, at), open("m n", at, 0))
	}
	return list
}

// badGraphs are graphs that may not be, and of which no more than MaxNodes nodes are told.
func badGraphs() []api.Graph {
	list := []api.Graph{{}, {N: []api.Node{}}, {Root: 1}, {Root: -1}}
	for _, root := range []int{-1, 3, 4, math.MaxInt, math.MinInt} {
		list = append(list, rooted(root, v, integer, open("")))
	}
	for _, bad := range badNodes() {
		// The Root itself; what Root leads to; what it doesn't lead to.
		list = append(list, nodes(bad, v, v), nodes(arrow(1, 2), v, bad), nodes(v, v, bad), rooted(2, bad, v, v))
	}
	return append(list, nodes(arrow(0, 1)), nodes(v, arrow(0, 2)))
}

// P6.1
func TestCheck(t *testing.T) {
	for _, n := range allNodes {
		for root, g := range []api.Graph{nodes(n, v, v), rooted(1, v, n, v), rooted(2, v, open(""), n), nodes(n, n, n), rooted(1, v, integer, n)} {
			if e := graph.Check(g); e != api.OK {
				t.Errorf("%d: Check(%v) = %d", root, g, e)
			}
		}
	}
	for _, g := range []api.Graph{nodes(v), nodes(integer), nodes(shut("")), nodes(open("m", 0)), nodes(arrow(0, 0))} {
		if e := graph.Check(g); e != api.OK {
			t.Errorf("Check(%v) = %d", g, e)
		}
	}
	for _, g := range badGraphs() {
		if e := graph.Check(g); e != api.ErrArg {
			t.Errorf("Check(%v) = %d, want ErrArg", g, e)
		}
	}
}

// P6.1: a graph may have MaxNodes nodes; one of more is too long, whatever else is wrong of it.
func TestCheckLong(t *testing.T) {
	const most = api.MaxNodes
	spoilt := repeated(most, 0, v)
	spoilt.N[most-1].Name = "a"
	for i, x := range []struct {
		g    api.Graph
		want api.Errno
	}{
		{repeated(most, most-1, v), api.OK}, {repeated(most, 0, arrow(most-1, 0)), api.OK}, {repeated(most, most, v), api.ErrArg}, {repeated(most, 0, arrow(0, most)), api.ErrArg}, {spoilt, api.ErrArg},
		{repeated(most+1, 0, v), api.ErrLong}, {repeated(most+1, most+1, v), api.ErrLong}, {repeated(most+1, -1, v), api.ErrLong}, {repeated(most+1, 0, api.Node{}), api.ErrLong}, {repeated(most+1, 0, arrow(-1, most)), api.ErrLong},
	} {
		if e := graph.Check(x.g); e != x.want {
			t.Errorf("%d: Check = %d, want %d", i, e, x.want)
		}
		if x.want != api.OK {
			wantNothing(t, x.g)
		}
	}
}

// wantNothing holds the others of what may not be.
func wantNothing(t *testing.T, g api.Graph) {
	t.Helper()
	if got := graph.Reach(g); len(got) != 0 {
		t.Errorf("Reach(%.200v) = %.200v", g, got)
	}
	if got := graph.Free(g); len(got) != 0 {
		t.Errorf("Free(%.200v) = %.200v", g, got)
	}
	if got := graph.Trim(g); len(got.N) != 0 || got.Root != 0 {
		t.Errorf("Trim(%.200v) = %.200v", g, got)
	}
	for _, h := range []api.Graph{g, nodes(v), {}} {
		if graph.Same(g, h) || graph.Same(h, g) {
			t.Errorf("Same(%.200v, %.200v)", g, h)
		}
	}
}

// P6.1, P6.2: of what may not be.
func TestOfWhatMayNotBe(t *testing.T) {
	for _, g := range badGraphs() {
		wantNothing(t, g)
	}
	// What is wrong may be where neither Root leads to.
	bad, good := nodes(integer, api.Node{}), nodes(integer, v)
	if graph.Same(bad, good) || graph.Same(good, bad) || graph.Same(bad, bad) || !graph.Same(good, good) {
		t.Error("a node that may not be")
	}
}

var reaches = []struct {
	g     api.Graph
	order []int
	free  []int
	trim  api.Graph
}{
	{nodes(v), []int{0}, []int{0}, nodes(v)},
	{nodes(integer), []int{0}, nil, nodes(integer)},
	{nodes(shut("")), []int{0}, nil, nodes(shut(""))},
	{rooted(1, integer, open(""), v), []int{1}, []int{1}, nodes(open(""))},
	{nodes(arrow(0, 0), v), []int{0}, nil, nodes(arrow(0, 0))},
	{nodes(arrow(1, 0), v), []int{0, 1}, []int{1}, nodes(arrow(1, 0), v)},
	{rooted(2, v, integer, arrow(1, 0)), []int{2, 1, 0}, []int{0}, nodes(arrow(1, 2), integer, v)},
	// Behind a node all that it leads to, ahead of the next Arg.
	{nodes(arrow(2, 1), v, times(4, 3), open(""), integer), []int{0, 2, 4, 3, 1}, []int{3, 1}, nodes(arrow(1, 4), times(2, 3), integer, open(""), v)},
	// A node once, where it comes first: within what a former Arg leads to, though it's a later Arg, too.
	{nodes(arrow(1, 2), arrow(3, 2), v, v), []int{0, 1, 3, 2}, []int{3, 2}, nodes(arrow(1, 3), arrow(2, 3), v, v)},
	{nodes(shut("a b c", 3, 2, 1), v, shut("m", 3), shut("m", 1)), []int{0, 3, 1, 2}, []int{1}, nodes(shut("a b c", 1, 3, 2), shut("m", 2), v, shut("m", 1))},
	// What goes round.
	{rooted(3, shut("m", 1), arrow(0, 2), open("x", 3), times(2, 0)), []int{3, 2, 0, 1}, []int{2}, nodes(times(1, 2), open("x", 0), shut("m", 3), arrow(2, 1))},
	{rooted(1, arrow(0, 1), open("m n", 1, 2), open("m", 2)), []int{1, 2}, []int{1, 2}, nodes(open("m n", 0, 1), open("m", 1))},
	// What isn't reached: it may lead to what is.
	{rooted(4, arrow(4, 4), v, open("m", 0), integer, shut("m", 3)), []int{4, 3}, nil, nodes(shut("m", 1), integer)},
}

// P6.1, P6.2
func TestReach(t *testing.T) {
	for _, x := range reaches {
		if got := graph.Reach(x.g); !slices.Equal(got, x.order) {
			t.Errorf("Reach(%v) = %v, want %v", x.g, got, x.order)
		}
		if got := graph.Free(x.g); !slices.Equal(got, x.free) {
			t.Errorf("Free(%v) = %v, want %v", x.g, got, x.free)
		}
		if got := graph.Trim(x.g); !sameNodes(got, x.trim) {
			t.Errorf("Trim(%v) = %v, want %v", x.g, got, x.trim)
		}
	}
}

// ring is a graph of so many nodes, each of which leads to the next, but for the last one.
func ring(size int, last api.Node) api.Graph {
	var g api.Graph
	for i := range size - 1 {
		g.N = append(g.N, shut("m", i+1))
	}
	g.N = append(g.N, last)
	return g
}

// P6.1, P6.2: as many nodes as there may be, one within the other; as many Args as there are nodes.
func TestReachOfMany(t *testing.T) {
	const most = api.MaxNodes
	for _, g := range []api.Graph{ring(most, v), ring(most, shut("m", 0))} {
		order := graph.Reach(g)
		for i, at := range order {
			if i != at {
				t.Fatalf("node %d is %d", i, at)
			}
		}
		if len(order) != most || !sameNodes(graph.Trim(g), g) {
			t.Errorf("%d nodes", len(order))
		}
		if free := graph.Free(g); len(free) != len(graph.Free(nodes(g.N[most-1]))) {
			t.Errorf("%d free", len(free))
		}
	}
	// Each leads to all that it leads to twice.
	var twice api.Graph
	for i := range most - 1 {
		twice.N = append(twice.N, times(i+1, i+1))
	}
	twice.N = append(twice.N, v)
	if got := graph.Reach(twice); len(got) != most || !slices.IsSorted(got) || !graph.Same(twice, twice) {
		t.Errorf("%d nodes", len(got))
	}
	last := repeated(most, 0, v)
	for i := most - 1; i >= 0; i-- {
		last.N[i] = arrow((i+most-1)%most, i)
	}
	if got := graph.Reach(last); len(got) != most || got[1] != most-1 || got[most-1] != 1 || !graph.Same(last, nodes(arrow(0, 0))) {
		t.Errorf("%d nodes", len(got))
	}
}

// same are graphs that are the same, line by line.
var same = [][]api.Graph{
	{nodes(v), rooted(1, integer, v), rooted(2, v, v, v)},
	{nodes(integer), rooted(1, integer, integer)},
	{nodes(con("bool"))}, {nodes(con("unit"))}, {nodes(con("string"))},
	{nodes(shut("")), rooted(1, open(""), shut(""))}, {nodes(open(""))},
	// 'a -> 'a, and what one node of it may be written as.
	{nodes(arrow(1, 1), v), rooted(1, v, arrow(0, 0))},
	{nodes(arrow(1, 2), v, v), rooted(2, v, v, arrow(1, 0))},
	{nodes(arrow(1, 1), integer), nodes(arrow(1, 2), integer, integer), nodes(arrow(2, 1), integer, integer)},
	{nodes(times(1, 1), integer), nodes(times(1, 2), integer, integer)},
	{nodes(arrow(1, 2), integer, con("bool"))}, {nodes(arrow(2, 1), integer, con("bool")), nodes(arrow(1, 2), con("bool"), integer)},
	{nodes(arrow(1, 1), open("")), rooted(1, open(""), arrow(0, 0))}, {nodes(arrow(1, 2), open(""), open(""))},
	{nodes(arrow(1, 1), shut("")), nodes(arrow(1, 2), shut(""), shut(""))},
	// The chapter's example: 'a -> 'b as 'b.
	{nodes(arrow(1, 0), v), nodes(arrow(1, 2), v, arrow(1, 0)), nodes(arrow(1, 2), v, arrow(1, 2)), rooted(1, v, arrow(0, 3), v, arrow(0, 1))},
	{nodes(arrow(1, 2), v, arrow(3, 0), v)}, {nodes(arrow(1, 2), v, arrow(3, 2), v)}, {nodes(arrow(0, 1), v), nodes(arrow(2, 1), v, arrow(0, 1))},
	// What goes round without a free node, in any number of nodes.
	{nodes(shut("m", 0)), nodes(shut("m", 1), shut("m", 0)), nodes(shut("m", 1), shut("m", 1)), nodes(shut("m", 1), shut("m", 2), shut("m", 0)), rooted(4, v, shut("m", 2), shut("m", 1), v, shut("m", 1))},
	{nodes(arrow(0, 0)), nodes(arrow(0, 1), arrow(1, 0)), nodes(arrow(1, 2), arrow(0, 0), arrow(2, 1))},
	{nodes(times(0, 0))}, {nodes(shut("m", 1), arrow(0, 0)), nodes(shut("m", 1), arrow(2, 0), shut("m", 1))}, {nodes(shut("n", 0))},
	{nodes(shut("m n", 0, 1), integer), nodes(shut("m n", 1, 2), shut("m n", 0, 3), integer, integer)},
	// An open one is one node alone.
	{nodes(open("m", 0)), rooted(1, v, open("m", 1))}, {nodes(open("m", 1), open("m", 0))}, {nodes(open("m", 1), open("m", 1))}, {nodes(open("m", 1), shut("m", 0)), nodes(open("m", 1), shut("m", 0), v)}, {nodes(shut("m", 1), open("m", 0)), rooted(1, open("m", 1), shut("m", 0))},
	{nodes(open("m", 1), integer)}, {nodes(shut("m", 1), integer)}, {nodes(open("n", 1), integer)}, {nodes(open("m n", 1, 1), integer), nodes(open("m n", 1, 2), integer, integer)}, {nodes(shut("m", 1), con("bool"))}, {nodes(shut("m", 1), v)}, {nodes(shut("m", 1), open(""))},
	{nodes(shut("m n", 1, 2), v, v), nodes(shut("m n", 2, 1), v, v)}, {nodes(shut("m n", 1, 1), v), nodes(shut("m n", 2, 2), v, v)},
	// Who is whom is told by all of it: 'a -> 'b -> 'a, 'a -> 'b -> 'b.
	{nodes(arrow(1, 2), v, arrow(3, 1), v)}, {nodes(arrow(1, 2), v, arrow(3, 3), v)}, {nodes(arrow(1, 2), v, arrow(1, 3), v)}, {nodes(arrow(1, 2), v, arrow(1, 1)), nodes(arrow(3, 2), v, arrow(3, 3), v)},
}

// P6.2: just those that stand in one line.
func TestSame(t *testing.T) {
	for i, line := range same {
		for _, g := range line {
			for j, other := range same {
				for _, h := range other {
					if got := graph.Same(g, h); got != (i == j) {
						t.Errorf("Same(%v, %v) = %v", g, h, got)
					}
				}
			}
		}
	}
}

// P6.2: what goes round in m and in n nodes is matched in all pairs of these; that many can't be looked at.
func TestSameOfMany(t *testing.T) {
	const most = api.MaxNodes
	g, h := ring(most, shut("m", 0)), ring(most-1, shut("m", 0))
	if !graph.Same(g, h) || !graph.Same(h, g) || !graph.Same(g, nodes(shut("m", 0))) {
		t.Error("rings are told apart")
	}
	const many = 1 << 16
	g, h = ring(many, shut("m", 0)), ring(many-1, shut("m", 0))
	if !graph.Same(ring(many, shut("m", many/3)), h) || graph.Same(ring(many, shut("m", many/3)), ring(many-1, v)) {
		t.Error("a ring that is led to")
	}
	for _, last := range []api.Node{v, integer, shut("n", 0), open("m", 0), shut(""), shut("m n", 0, 0)} {
		if x := ring(many-1, last); graph.Same(g, x) || graph.Same(x, g) || !graph.Same(x, x) {
			t.Errorf("a ring but for %v", last)
		}
	}
	for _, last := range []api.Node{v, open("m", 0)} {
		if g, h := ring(many, last), ring(many-1, last); graph.Same(g, h) || graph.Same(h, g) || !graph.Same(g, ring(many, last)) {
			t.Errorf("rings with one %v", last)
		}
	}
}

// spared is a graph whose lists have spare room, and of which nothing but a call's own faults could change that room.
func spared(g api.Graph) api.Graph {
	h := api.Graph{N: append(make([]api.Node, 0, len(g.N)+2), g.N...), Root: g.Root}
	for i, n := range g.N {
		h.N[i].Args = append(append(make([]int, 0, 8), n.Args...), 77, 78)[:len(n.Args)]
		h.N[i].Labels = append(append(make([]string, 0, 8), n.Labels...), "spare", "room")[:len(n.Labels)]
	}
	return h
}

// whole is a graph with the spare room of its lists.
func whole(g api.Graph) api.Graph {
	h := api.Graph{N: slices.Clone(g.N[:cap(g.N)]), Root: g.Root}
	for i, n := range h.N {
		h.N[i].Args = slices.Clone(n.Args[:cap(n.Args)])
		h.N[i].Labels = slices.Clone(n.Labels[:cap(n.Labels)])
	}
	return h
}

// fill writes over all that a graph's lists have room for.
func fill(g api.Graph) {
	for _, n := range g.N {
		for i := range n.Args[:cap(n.Args)] {
			n.Args[:cap(n.Args)][i] = -5
		}
		for i := range n.Labels[:cap(n.Labels)] {
			n.Labels[:cap(n.Labels)][i] = "?"
		}
	}
	for i := range g.N[:cap(g.N)] {
		g.N[:cap(g.N)][i] = api.Node{Kind: -5}
	}
}

// What is handed in is left as it is; what is answered is new memory, and no two lists of it share any.
func TestMemory(t *testing.T) {
	lists := append([]api.Graph{nodes(shut("a b c d", 1, 1, 2, 0), arrow(2, 0), open("a b c d", 0, 1, 2, 2))}, badGraphs()[4:]...)
	for _, x := range reaches {
		lists = append(lists, x.g)
	}
	for _, g := range lists {
		in := spared(g)
		was := whole(in)
		graph.Check(in)
		graph.Same(in, in)
		order, again := graph.Reach(in), graph.Reach(in)
		for i := range order[:cap(order)] {
			order[:cap(order)][i] = -5
		}
		free := graph.Free(in)
		for i := range free[:cap(free)] {
			free[:cap(free)][i] = -5
		}
		if !slices.Equal(again, graph.Reach(in)) {
			t.Errorf("Reach(%v) is kept", g)
		}
		out := graph.Trim(in)
		want := graph.Trim(g)
		for i := range out.N {
			out.N[i].Args = append(out.N[i].Args, -5, -5, -5)[:len(out.N[i].Args)]
			out.N[i].Labels = append(out.N[i].Labels, "?", "?", "?")[:len(out.N[i].Labels)]
		}
		if !sameNodes(out, want) {
			t.Errorf("Trim(%v): its lists share memory", g)
		}
		fill(out)
		if !reflect.DeepEqual(whole(in), was) || !sameNodes(graph.Trim(in), want) {
			t.Errorf("%v is changed to %v", was, whole(in))
		}
	}
}
