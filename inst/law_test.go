package inst_test

import (
	"math/rand"
	"reflect"
	"slices"
	"strconv"
	"testing"

	"trefoil/api"
	"trefoil/canon"
	"trefoil/graph"
	"trefoil/inst"
	"trefoil/solve"
)

func isFree(n api.Node) bool { return n.Kind == api.NVar || n.Open }

// A pair is a node of g and a class of h.
type pair struct{ at, to int }

// plainNext are the pairs that must be matched, if one is; false, if it may not be.
func plainNext(n, m api.Node) ([]pair, bool) {
	var next []pair
	if n.Kind == api.NVar {
		return nil, true
	}
	if n.Kind != m.Kind || n.Name != m.Name || !n.Open && m.Open {
		return nil, false
	}
	for i, label := range n.Labels {
		place := slices.Index(m.Labels, label)
		if place < 0 {
			return nil, false
		}
		next = append(next, pair{n.Args[i], m.Args[place]})
	}
	if n.Kind == api.NCon {
		for i, arg := range n.Args {
			next = append(next, pair{arg, m.Args[i]})
		}
	}
	return next, n.Open || len(n.Labels) == len(m.Labels)
}

// plainIs says whether h is an instance of g in another way: all pairs that must be matched are told, and looked at when all are; h's nodes are what they are alike to, by Classes.
func plainIs(g, h api.Graph) bool {
	class := canon.Classes(h)
	pairs := []pair{{g.Root, class[h.Root]}}
	for i := 0; i < len(pairs); i++ {
		next, ok := plainNext(g.N[pairs[i].at], h.N[pairs[i].to])
		if !ok {
			return false
		}
		for _, p := range next {
			p.to = class[p.to]
			if !slices.Contains(pairs, p) {
				pairs = append(pairs, p)
			}
		}
	}
	for _, p := range pairs {
		for _, q := range pairs {
			if isFree(g.N[p.at]) && p.at == q.at && p.to != q.to {
				return false
			}
		}
	}
	return true
}

// plainClose is what a graph is without free nodes.
func plainClose(g api.Graph) api.Graph {
	h := api.Graph{Root: g.Root}
	for _, n := range g.N {
		if n.Kind == api.NVar {
			n = unit
		}
		n.Open = false
		h.N = append(h.N, n)
	}
	return graph.Trim(h)
}

// wantLaws holds what is told of a graph to the plain telling, and to P11.2.
func wantLaws(t *testing.T, g api.Graph) {
	t.Helper()
	closed := inst.Close(g)
	if !sameNodes(closed, plainClose(g)) || graph.Check(closed) != api.OK || !inst.Closed(closed) || !sameNodes(inst.Close(closed), closed) {
		t.Fatalf("Close(%v) = %v, want %v", g, closed, plainClose(g))
	}
	free := len(graph.Free(g)) > 0
	if inst.Closed(g) == free || sameNodes(closed, graph.Trim(g)) == free {
		t.Fatalf("Closed(%v) = %v", g, inst.Closed(g))
	}
	wantIs(t, g, g, true, true)
	wantIs(t, g, canon.Least(g), true, true)
	wantIs(t, nodes(v), g, true, g.N[g.Root].Kind == api.NVar)
	wantIs(t, g, closed, true, !free)
	if t.Failed() {
		t.FailNow()
	}
}

// wantPair holds two graphs to the plain telling and to P11.2, and says whether the second one is an instance of the first one.
func wantPair(t *testing.T, g, h api.Graph) bool {
	t.Helper()
	is, back := plainIs(g, h), plainIs(h, g)
	wantIs(t, g, h, is, back)
	if graph.Same(g, h) != (is && back) {
		t.Errorf("%v and %v are instances of one another: %v, %v", g, h, is, back)
	}
	both, e := solve.Meet(g, h)
	if e == api.OK && !(inst.Is(g, both) && inst.Is(h, both)) {
		t.Errorf("Meet(%v, %v) = %v is no instance of both", g, h, both)
	}
	if (e == api.OK && graph.Same(both, h)) != is || (e == api.OK && graph.Same(both, g)) != back {
		t.Errorf("Meet(%v, %v) = %v, %d; they are instances: %v, %v", g, h, both, e, is, back)
	}
	if t.Failed() {
		t.FailNow()
	}
	return is
}

// nodesOf are the nodes that a graph of so many may have, of a few names and labels.
func nodesOf(size int) []api.Node {
	all := []api.Node{v, integer, shut(""), open("")}
	for i := range size {
		all = append(all, shut("m", i), open("m", i), open("n", i))
		for j := range size {
			all = append(all, arrow(i, j), shut("m n", i, j), open("m n", i, j))
		}
	}
	return all
}

// graphsOf are all graphs of so many nodes.
func graphsOf(size int) []api.Graph {
	all := []api.Graph{{}}
	for range size {
		var more []api.Graph
		for _, g := range all {
			for _, n := range nodesOf(size) {
				more = append(more, nodes(append(slices.Clone(g.N), n)...))
			}
		}
		all = more
	}
	return all
}

// P11.1, P11.2: all graphs of up to three nodes; each with one of up to three.
func TestLawsOfAll(t *testing.T) {
	few := append(graphsOf(1), graphsOf(2)...)
	for size := 1; size <= 3; size++ {
		for i, g := range graphsOf(size) {
			g.Root = i % size
			wantLaws(t, g)
			wantPair(t, g, few[i*7%len(few)])
		}
	}
}

// P11.1, P11.2: all graphs of one and two nodes, each with each; what is an instance of an instance is one.
func TestPairsOfAll(t *testing.T) {
	all := append(graphsOf(1), graphsOf(2)...)
	of := make([][]int, len(all))
	is := map[pair]bool{}
	for i, g := range all {
		for j, h := range all {
			if wantPair(t, g, h) {
				of[i] = append(of[i], j)
				is[pair{i, j}] = true
			}
		}
	}
	if len(is) < 10*len(all) || len(is) > len(all)*len(all)/4 {
		t.Errorf("%d of %d are instances: they tell little", len(is), len(all)*len(all))
	}
	for i := range all {
		for _, j := range of[i] {
			for _, k := range of[j] {
				if !is[pair{i, k}] {
					t.Fatalf("%v, of %v, of %v", all[k], all[j], all[i])
				}
			}
		}
	}
}

// A maker makes graphs at random.
type maker struct{ *rand.Rand }

func (r maker) graph(size int, kinds []api.Node) api.Graph {
	g := api.Graph{Root: r.Intn(size)}
	for range size {
		n := kinds[r.Intn(len(kinds))]
		n.Args = slices.Clone(n.Args)
		for i := range n.Args {
			n.Args[i] = r.Intn(size)
		}
		g.N = append(g.N, n)
	}
	return g
}

// copied is a graph with some nodes more, which are as others are, and lead where those lead, or to others that are as these; free nodes have none such.
func (r maker) copied(g api.Graph) api.Graph {
	var h api.Graph
	var of []int
	like := make([][]int, len(g.N))
	for _, at := range append(r.Perm(len(g.N)), r.Perm(len(g.N))...) {
		if len(like[at]) == 0 || !isFree(g.N[at]) {
			like[at] = append(like[at], len(of))
			of = append(of, at)
		}
	}
	for _, at := range of {
		n := g.N[at]
		n.Args = slices.Clone(n.Args)
		for i, arg := range n.Args {
			n.Args[i] = like[arg][r.Intn(len(like[arg]))]
		}
		h.N = append(h.N, n)
	}
	h.Root = like[g.Root][r.Intn(len(like[g.Root]))]
	return h
}

// spoilt is a graph in which one node is another one, or one Arg leads elsewhere.
func (r maker) spoilt(g api.Graph) api.Graph {
	h := api.Graph{N: slices.Clone(g.N), Root: g.Root}
	at := r.Intn(len(h.N))
	n := &h.N[at]
	n.Args = slices.Clone(n.Args)
	if len(n.Args) > 0 && r.Intn(2) == 0 {
		n.Args[r.Intn(len(n.Args))] = r.Intn(len(h.N))
	} else {
		*n = r.graph(len(h.N), nodesOf(1)).N[at]
	}
	return h
}

// more is what a free node may become: a variable any other node, an object one of more labels, open or not.
func (r maker) more(n api.Node, size int) api.Node {
	if n.Kind == api.NVar {
		return r.graph(size, nodesOf(1)).N[0]
	}
	m := api.Node{Kind: api.NObj, Open: r.Intn(2) == 0}
	for _, label := range []string{"a", "m", "mm", "n", "z"} {
		place := slices.Index(n.Labels, label)
		if place >= 0 || r.Intn(4) == 0 {
			m.Labels = append(m.Labels, label)
			m.Args = append(m.Args, r.Intn(size))
			if place >= 0 {
				m.Args[len(m.Args)-1] = n.Args[place]
			}
		}
	}
	return m
}

// made is an instance of a graph by its making: free nodes become others, or one with others that they may be one with.
func (r maker) made(g api.Graph) api.Graph {
	h := api.Graph{N: append(slices.Clone(g.N), r.graph(3, nodesOf(1)).N...), Root: g.Root}
	for at, n := range g.N {
		if isFree(n) && r.Intn(2) == 0 {
			h.N[at] = r.more(n, len(h.N))
		}
	}
	for range r.Intn(4) {
		if k, _, e := solve.Unify(h, [][2]int{{r.Intn(len(h.N)), r.Intn(len(h.N))}}); e == api.OK {
			h = k
		}
	}
	return h
}

// kinds are such nodes as often have instances among one another.
func kinds() [][]api.Node {
	return [][]api.Node{
		nodesOf(1),
		{arrow(0, 0), v}, {arrow(0, 0), v, v, v}, {shut("m", 0), open("m", 0), arrow(0, 0)}, {arrow(0, 0), arrow(0, 0), v, integer, open("")}, {arrow(0, 0), times(0, 0), v, v, v, boolean},
		{shut("m", 0), shut("m", 0), shut("m", 0), v}, {shut("m", 0), shut("m", 0), shut("m", 0), shut("n", 0), open("n", 0)}, {shut("m n", 0, 0), open("m", 0), open("n", 0), open(""), open("m n z", 0, 0, 0)}, {open("m", 0), open("m", 0), open("n", 0), open("a", 0), v}, {times(0, 0), times(0, 0), times(0, 0), v, open("m", 0), open("a z", 0, 0)},
	}
}

// P11.1, P11.2: graphs at random, what is an instance by its making, and what is nearly one.
func TestLawsAtRandom(t *testing.T) {
	r := maker{rand.New(rand.NewSource(1))}
	many := kinds()
	is, more := 0, 0
	for i := range 6000 {
		g := r.graph(1+r.Intn(9), many[i%len(many)])
		h := r.made(r.copied(g))
		k := r.copied(r.made(h))
		wantLaws(t, g)
		if !wantPair(t, g, h) || !wantPair(t, h, k) || !wantPair(t, g, k) || !wantPair(t, g, r.copied(g)) {
			t.Fatalf("%v is none of %v, or of %v", k, h, g)
		}
		if inst.More(g, k) {
			more++
		}
		for _, x := range []api.Graph{r.spoilt(h), r.spoilt(k), r.graph(1+r.Intn(9), many[i%len(many)])} {
			if wantPair(t, g, x) {
				is++
			}
		}
	}
	if is < 3000 || is > 15000 || more < 2000 || more > 5000 {
		t.Errorf("%d of 18000 are instances, %d of 6000 less than what they are made of: the graphs tell little", is, more)
	}
}

// P11.1, P11.2: greater graphs.
func TestLawsOfGreater(t *testing.T) {
	r := maker{rand.New(rand.NewSource(2))}
	many := kinds()
	for i := range 500 {
		g := r.graph(20+r.Intn(30), many[i%len(many)])
		h := r.copied(r.made(g))
		wantLaws(t, h)
		if !wantPair(t, g, h) {
			t.Fatalf("%v is none of %v", h, g)
		}
		wantPair(t, g, r.spoilt(h))
	}
}

// P1: no call panics, whatever it is given.
func TestOfAny(t *testing.T) {
	r := maker{rand.New(rand.NewSource(3))}
	of := nodesOf(3)
	last := nodes(v)
	for range 20000 {
		g := api.Graph{Root: r.Intn(6) - 1}
		for range r.Intn(6) {
			n := of[r.Intn(len(of))]
			if r.Intn(9) == 0 {
				n = api.Node{Kind: r.Intn(5), Args: []int{r.Intn(6) - 1}}
			}
			g.N = append(g.N, n)
		}
		if graph.Check(g) != api.OK {
			wantNothing(t, g)
			continue
		}
		wantLaws(t, g)
		wantPair(t, last, g)
		last = g
	}
}

// chain is a graph of so many nodes, each of which leads to the next, but for the last one.
func chain(size int, each func(next int) api.Node, last api.Node) api.Graph {
	var g api.Graph
	for i := range size - 1 {
		g.N = append(g.N, each(i+1))
	}
	g.N = append(g.N, last)
	return g
}

var onlyM = []string{"m"}

func shutTo(next int) api.Node {
	return api.Node{Kind: api.NObj, Labels: onlyM, Args: []int{next}}
}
func openTo(next int) api.Node {
	return api.Node{Kind: api.NObj, Labels: onlyM, Args: []int{next}, Open: true}
}

// P11.1: as many nodes as there may be, one behind the other, and around.
func TestOfMany(t *testing.T) {
	const most = api.MaxNodes
	one, opens, round := chain(most, shutTo, integer), chain(most, openTo, v), nodes(shut("m", 0))
	for _, x := range []struct {
		g, h api.Graph
		is   bool
	}{
		{one, one, true}, {opens, one, true}, {one, opens, false}, {chain(most-1, shutTo, v), one, true}, {opens, round, true}, {one, round, false}, {round, chain(most, shutTo, shut("m", most/3)), true},
	} {
		if got := inst.Is(x.g, x.h); got != x.is {
			t.Errorf("Is(%s, %s) = %v", brief(x.g), brief(x.h), got)
		}
	}
	for _, g := range []api.Graph{one, opens} {
		if got := inst.Close(g); len(got.N) != most || !inst.Closed(got) || inst.Closed(g) != (g.N[most-1].Kind == api.NCon) {
			t.Errorf("Close(%s) = %s", brief(g), brief(got))
		}
	}
}

// fan is a graph whose Root leads to so many nodes, by pairs, one behind the other; each of these is as one node is, and leads where that one leads.
func fan(size int, n api.Node, rest ...api.Node) api.Graph {
	g := api.Graph{N: slices.Clone(rest), Root: len(rest)}
	for range size {
		g.N = append(g.N, times(len(g.N)+1, len(g.N)+2), n)
		g.N[len(g.N)-2].Args[1] = len(g.N)
	}
	g.N = append(g.N, integer)
	return g
}

// P11.1: many objects of few labels, matched with one of many labels, and many of these with one. None may be gone through label by label for each of the others.
func TestOfManyLabels(t *testing.T) {
	const many = 50000
	var labels []string
	for i := range many {
		labels = append(labels, "m"+strconv.Itoa(many+i))
	}
	wide := api.Node{Kind: api.NObj, Labels: labels, Args: make([]int, many)}
	h := fan(many, api.Node{Kind: api.NObj}, integer, wide)
	for at := 3; at < len(h.N)-1; at += 2 {
		h.N[at] = integer
		h.N[at-1].Args[0] = 1
	}
	one := open(labels[many-1], 0)
	g := fan(many, one, v)
	wantIs(t, g, h, true, false)
	one.Labels = []string{"m0"}
	wantIs(t, fan(many, one, v), h, false, false)
	wantIs(t, fan(many, open(""), v), h, true, false)
	wantIs(t, fan(many, shut(labels[0], 0), v), h, false, false)
	wide.Open = true
	other := wide
	other.Args = slices.Repeat([]int{2}, many)
	k := h
	k.N = slices.Clone(h.N)
	k.N[1] = wide
	wantIs(t, k, h, true, false)
	k.N = append(k.N, other)
	k.Root = len(k.N) - 1
	wantIs(t, k, h, false, false)
}

// spared is a graph whose lists have spare room.
func spared(g api.Graph) api.Graph {
	h := api.Graph{N: append(make([]api.Node, 0, len(g.N)+2), g.N...), Root: g.Root}
	for i, n := range g.N {
		h.N[i].Args = append(append(make([]int, 0, 8), n.Args...), 77, 78)[:len(n.Args)]
		h.N[i].Labels = append(append(make([]string, 0, 8), n.Labels...), "spare", "room")[:len(n.Labels)]
	}
	return h
}

// whole is a graph with the spare room of its lists.
func whole(g api.Graph) api.Graph {
	h := api.Graph{N: slices.Clone(g.N[:cap(g.N)]), Root: g.Root}
	for i, n := range h.N {
		h.N[i].Args = slices.Clone(n.Args[:cap(n.Args)])
		h.N[i].Labels = slices.Clone(n.Labels[:cap(n.Labels)])
	}
	return h
}

func fill[T any](list []T, with T) {
	for i := range list {
		list[i] = with
	}
}

// wantOwn holds an answer to memory of its own: what one list of it has room for is written over, and no other one is changed.
func wantOwn(t *testing.T, g, want api.Graph) {
	t.Helper()
	for i := range g.N {
		args, labels := g.N[i].Args, g.N[i].Labels
		fill(args[len(args):cap(args)], -5)
		fill(labels[len(labels):cap(labels)], "?")
	}
	if !sameNodes(g, want) {
		t.Errorf("%v, and not %v: a list's spare room is another one's", g, want)
	}
	for i := range g.N {
		fill(g.N[i].Args, -5)
		fill(g.N[i].Labels, "?")
		if rest := g.N[i+1:]; !sameNodes(nodes(rest...), nodes(want.N[i+1:]...)) {
			t.Errorf("node %d of %v shares memory with one behind it", i, want)
		}
	}
	fill(g.N[:cap(g.N)], api.Node{Kind: -5})
}

// What is handed in is left as it is; what is answered is new memory, and no two lists of it share any.
func TestMemory(t *testing.T) {
	r := maker{rand.New(rand.NewSource(4))}
	many := kinds()
	for i := range 3000 {
		g := r.graph(1+r.Intn(7), many[i%len(many)])
		h := r.made(g)
		g, h = spared(g), spared(h)
		was, made := whole(g), whole(h)
		back := inst.Is(h, g)
		for range 2 {
			wantIs(t, g, h, true, back)
			wantOwn(t, inst.Close(g), plainClose(g))
		}
		if !reflect.DeepEqual(whole(g), was) || !reflect.DeepEqual(whole(h), made) {
			t.Fatalf("%v, %v are changed to %v, %v", was, made, whole(g), whole(h))
		}
	}
}
