package graph_test

import (
	"math/rand"
	"slices"
	"testing"

	"trefoil/api"
	"trefoil/graph"
)

// plainOrder tells a graph's nodes in order in another way: by calls within calls.
func plainOrder(g api.Graph, at int, order []int) []int {
	if slices.Contains(order, at) {
		return order
	}
	order = append(order, at)
	for _, arg := range g.N[at].Args {
		order = plainOrder(g, arg, order)
	}
	return order
}

// plainPairs are all pairs that are matched, if a pair is.
func plainPairs(g, h api.Graph, p [2]int, pairs map[[2]int]bool) bool {
	if pairs[p] {
		return true
	}
	pairs[p] = true
	x, y := g.N[p[0]], h.N[p[1]]
	if x.Kind != y.Kind || x.Name != y.Name || !slices.Equal(x.Labels, y.Labels) || x.Open != y.Open {
		return false
	}
	for i := range x.Args {
		if !plainPairs(g, h, [2]int{x.Args[i], y.Args[i]}, pairs) {
			return false
		}
	}
	return true
}

// plainSame tells in another way whether two graphs are the same: by all pairs, and then with how many each free node is.
func plainSame(g, h api.Graph) bool {
	pairs := map[[2]int]bool{}
	if !plainPairs(g, h, [2]int{g.Root, h.Root}, pairs) {
		return false
	}
	left, right := map[int]int{}, map[int]int{}
	for p := range pairs {
		left[p[0]]++
		right[p[1]]++
	}
	for p := range pairs {
		free := g.N[p[0]].Kind == api.NVar || g.N[p[0]].Kind == api.NObj && g.N[p[0]].Open
		if free && (left[p[0]] > 1 || right[p[1]] > 1) {
			return false
		}
	}
	return true
}

// nodesOf are the nodes that a graph of so many may have, of a few names and labels.
func nodesOf(size int) []api.Node {
	list := []api.Node{v, integer, shut(""), open("")}
	for i := range size {
		list = append(list, shut("m", i), open("m", i))
		for j := range size {
			list = append(list, arrow(i, j), times(i, j), shut("m n", i, j))
		}
	}
	return list
}

// wantLaws holds what is told of one graph to the plain telling, and to P6.3.
func wantLaws(t *testing.T, g api.Graph) {
	t.Helper()
	if e := graph.Check(g); e != api.OK {
		t.Fatalf("Check(%v) = %d", g, e)
	}
	order := plainOrder(g, g.Root, nil)
	if got := graph.Reach(g); !slices.Equal(got, order) {
		t.Fatalf("Reach(%v) = %v, want %v", g, got, order)
	}
	free := slices.DeleteFunc(slices.Clone(order), func(at int) bool { return g.N[at].Kind != api.NVar && !g.N[at].Open })
	if got := graph.Free(g); !slices.Equal(got, free) {
		t.Fatalf("Free(%v) = %v, want %v", g, got, free)
	}
	trim := graph.Trim(g)
	if graph.Check(trim) != api.OK || trim.Root != 0 || len(trim.N) != len(order) || !graph.Same(g, trim) || !graph.Same(trim, g) || !sameNodes(graph.Trim(trim), trim) {
		t.Fatalf("Trim(%v) = %v", g, trim)
	}
	for i, at := range graph.Reach(trim) {
		x, y := trim.N[at], g.N[order[i]]
		ok := i == at && x.Kind == y.Kind && x.Name == y.Name && x.Open == y.Open && slices.Equal(x.Labels, y.Labels) && len(x.Args) == len(y.Args)
		for j := range x.Args {
			ok = ok && order[x.Args[j]] == y.Args[j]
		}
		if !ok {
			t.Fatalf("Trim(%v) = %v", g, trim)
		}
	}
	if !graph.Same(g, g) {
		t.Fatalf("%v is not itself", g)
	}
}

// graphsOf are all graphs of so many nodes.
func graphsOf(size int) []api.Graph {
	list := []api.Graph{{}}
	for range size {
		var more []api.Graph
		for _, g := range list {
			for _, n := range nodesOf(size) {
				more = append(more, nodes(append(slices.Clone(g.N), n)...))
			}
		}
		list = more
	}
	return list
}

// P6.1 to P6.3: all graphs of one and of two nodes, each against each, and from one to the next.
func TestLawsOfAll(t *testing.T) {
	all := append(graphsOf(1), graphsOf(2)...)
	line := make([]int, len(all)) // of each the first one that it is the same as
	for i, g := range all {
		wantLaws(t, g)
		line[i] = slices.IndexFunc(all[:i+1], func(h api.Graph) bool { return graph.Same(g, h) })
	}
	for i, g := range all {
		for j, h := range all {
			got := graph.Same(g, h)
			if got != plainSame(g, h) || got != (line[i] == line[j]) {
				t.Fatalf("Same(%v, %v) = %v", g, h, got)
			}
		}
	}
}

// P6.1, P6.2: all graphs of three nodes.
func TestLawsOfThree(t *testing.T) {
	all := graphsOf(3)
	for i, g := range all {
		g.Root = i % 3
		wantLaws(t, g)
	}
}

// A maker makes graphs at random.
type maker struct{ *rand.Rand }

func (r maker) graph(size int, kinds []api.Node) api.Graph {
	g := api.Graph{Root: r.Intn(size)}
	for range size {
		n := kinds[r.Intn(len(kinds))]
		n.Args = slices.Clone(n.Args)
		for i := range n.Args {
			n.Args[i] = r.Intn(size)
		}
		g.N = append(g.N, n)
	}
	return g
}

// copied is a graph with some nodes more, which are as others are, and lead where those lead, or to others that are as these; free nodes have none such.
func (r maker) copied(g api.Graph) api.Graph {
	var h api.Graph
	var of []int // of each node of h the one of g that it is as
	like := make([][]int, len(g.N))
	for _, at := range append(r.Perm(len(g.N)), r.Perm(len(g.N))...) {
		if n := g.N[at]; len(like[at]) == 0 || n.Kind != api.NVar && !n.Open {
			like[at] = append(like[at], len(of))
			of = append(of, at)
		}
	}
	for _, at := range of {
		n := g.N[at]
		n.Args = slices.Clone(n.Args)
		for i, arg := range n.Args {
			n.Args[i] = like[arg][r.Intn(len(like[arg]))]
		}
		h.N = append(h.N, n)
	}
	h.Root = like[g.Root][r.Intn(len(like[g.Root]))]
	return h
}

// spoilt is a graph in which one node is another one, or one Arg leads elsewhere.
func (r maker) spoilt(g api.Graph) api.Graph {
	h := api.Graph{N: slices.Clone(g.N), Root: g.Root}
	at := r.Intn(len(h.N))
	n := &h.N[at]
	n.Args = slices.Clone(n.Args)
	if len(n.Args) > 0 && r.Intn(2) == 0 {
		n.Args[r.Intn(len(n.Args))] = r.Intn(len(h.N))
	} else {
		*n = r.graph(len(h.N), nodesOf(1)).N[at]
	}
	return h
}

// P6.1 to P6.3: graphs at random, what is the same by its making, and what is nearly so.
func TestLawsAtRandom(t *testing.T) {
	r := maker{rand.New(rand.NewSource(1))}
	most := nodesOf(1)
	many := [][]api.Node{most, {arrow(0, 0), v}, {shut("m", 0), open("m", 0), arrow(0, 0)}, {arrow(0, 0), shut("m", 0), times(0, 0)}, {arrow(0, 0), arrow(0, 0), arrow(0, 0), integer, open("")}}
	differ := 0
	for i := range 20000 {
		g := r.graph(1+r.Intn(12), many[i%len(many)])
		wantLaws(t, g)
		h := r.copied(g)
		k := r.copied(h)
		if !graph.Same(g, h) || !graph.Same(h, g) || !graph.Same(h, k) || !graph.Same(g, k) || !plainSame(g, h) {
			t.Fatalf("%v is not %v", g, h)
		}
		for _, x := range []api.Graph{r.spoilt(h), r.spoilt(g), r.graph(1+r.Intn(12), many[i%len(many)])} {
			want := plainSame(g, x)
			if graph.Same(g, x) != want || graph.Same(x, g) != want || graph.Same(h, x) != want || graph.Same(x, k) != want {
				t.Fatalf("Same(%v, %v) is not %v", g, x, want)
			}
			if !want {
				differ++
			}
		}
	}
	if differ < 10000 || differ > 55000 {
		t.Errorf("%d of 60000 differ: the graphs tell little", differ)
	}
}

// P1: no call panics, whatever it is given.
func TestOfAny(t *testing.T) {
	r := maker{rand.New(rand.NewSource(2))}
	kinds := append(append(badNodes(), allNodes...), nodesOf(3)...)
	for range 20000 {
		g, h := api.Graph{Root: r.Intn(6) - 1}, api.Graph{Root: r.Intn(4)}
		for range r.Intn(5) {
			g.N = append(g.N, kinds[r.Intn(len(kinds))])
			h.N = append(h.N, kinds[len(badNodes())+r.Intn(len(allNodes))])
		}
		if e := graph.Check(g); e == api.OK {
			wantLaws(t, g)
		} else if e != api.ErrArg {
			t.Fatalf("Check(%v) = %d", g, e)
		} else {
			wantNothing(t, g)
		}
		if graph.Check(g) == api.OK && graph.Check(h) == api.OK {
			if graph.Same(g, h) != plainSame(g, h) {
				t.Fatalf("Same(%v, %v)", g, h)
			}
		}
	}
}
