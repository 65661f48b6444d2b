package solve_test

import (
	"math/rand"
	"reflect"
	"slices"
	"testing"

	"trefoil/api"
	"trefoil/graph"
	"trefoil/solve"
)

// argOf is the Arg of a node's label.
func argOf(n api.Node, label string) (int, bool) {
	at := slices.Index(n.Labels, label)
	if at < 0 {
		return 0, false
	}
	return n.Args[at], true
}

// plainArgs are the Args of two nodes that must be one if the nodes are.
func plainArgs(x, y api.Node) list {
	var pairs list
	if x.Kind == api.NCon && y.Kind == api.NCon && x.Name == y.Name {
		for i := range x.Args {
			pairs = append(pairs, [2]int{x.Args[i], y.Args[i]})
		}
	}
	for i, label := range x.Labels {
		if arg, both := argOf(y, label); both {
			pairs = append(pairs, [2]int{x.Args[i], arg})
		}
	}
	return pairs
}

// plainClasses tells of each node the least one of its class in another way: all nodes are held against all, again and again, till nothing comes of it.
func plainClasses(g api.Graph, pairs list) []int {
	least := make([]int, len(g.N))
	for i := range least {
		least[i] = i
	}
	for len(pairs) > 0 {
		for _, p := range pairs {
			a, b := least[p[0]], least[p[1]]
			for i := range least {
				if least[i] == a || least[i] == b {
					least[i] = min(a, b)
				}
			}
		}
		pairs = nil
		for i, x := range g.N {
			for j, y := range g.N[:i] {
				if least[i] == least[j] {
					pairs = append(pairs, plainArgs(x, y)...)
				}
			}
		}
		pairs = slices.DeleteFunc(pairs, func(p [2]int) bool { return least[p[0]] == least[p[1]] })
	}
	return least
}

// plainNode is the node of a class, all of whose nodes are told; false, if they can't be one.
func plainNode(class []api.Node, least []int) (api.Node, bool) {
	answer := v
	for _, n := range class {
		switch {
		case n.Kind == api.NVar:
		case answer.Kind == api.NVar:
			answer = api.Node{Kind: n.Kind, Name: n.Name, Labels: slices.Clone(n.Labels), Args: slices.Clone(n.Args), Open: n.Open}
		case answer.Kind != n.Kind || answer.Name != n.Name:
			return v, false
		default:
			for i, label := range n.Labels {
				if at, there := slices.BinarySearch(answer.Labels, label); !there {
					answer.Labels, answer.Args = slices.Insert(answer.Labels, at, label), slices.Insert(answer.Args, at, n.Args[i])
				}
			}
			answer.Open = answer.Open && n.Open
		}
	}
	for _, n := range class {
		if n.Kind == api.NObj && !n.Open && !slices.Equal(n.Labels, answer.Labels) {
			return v, false
		}
	}
	for i, arg := range answer.Args {
		answer.Args[i] = least[arg]
	}
	return answer, true
}

// plainUnify is a graph in which pairs are one; false, if they can't be.
func plainUnify(g api.Graph, pairs list) (api.Graph, []int, bool) {
	least := plainClasses(g, pairs)
	h := api.Graph{Root: least[g.Root]}
	for i := range g.N {
		var class []api.Node
		for j, n := range g.N {
			if least[j] == least[i] {
				class = append(class, n)
			}
		}
		n, ok := plainNode(class, least)
		if !ok {
			return api.Graph{}, nil, false
		}
		h.N = append(h.N, n)
	}
	return h, least, true
}

// wantLaws holds pairs to the plain telling, and to P8.3. It says whether they can be made one.
func wantLaws(t *testing.T, g api.Graph, pairs list) bool {
	t.Helper()
	want, least, ok := plainUnify(g, pairs)
	got, of, e := solve.Unify(g, pairs)
	if ok != (e == api.OK) || !ok && e != api.ErrType || !sameNodes(got, want) || !slices.Equal(of, least) {
		t.Fatalf("Unify(%v, %v) = %v, %v, %d, want %v, %v, %v", g, pairs, got, of, e, want, least, ok)
	}
	if !ok {
		return false
	}
	again, once, e := solve.Unify(got, pairs)
	if graph.Check(got) != api.OK || e != api.OK || !sameNodes(again, got) {
		t.Fatalf("Unify(%v, %v) = %v, then %v, %d", g, pairs, got, again, e)
	}
	for i, at := range of {
		// What was one by way of Args that are one node now is not told by the second call, but nothing else is one.
		if of[at] != at || at > i || of[once[i]] != at || !sameNodes(nodes(got.N[i]), nodes(got.N[at])) {
			t.Fatalf("Unify(%v, %v) = %v, %v, then %v", g, pairs, got, of, once)
		}
	}
	return true
}

// wantMeet holds two types to what comes of their nodes behind one another. It says whether they can be made one.
func wantMeet(t *testing.T, g, h api.Graph) bool {
	t.Helper()
	both := api.Graph{N: slices.Clone(g.N), Root: g.Root}
	for _, n := range h.N {
		n.Args = slices.Clone(n.Args)
		for i := range n.Args {
			n.Args[i] += len(g.N)
		}
		both.N = append(both.N, n)
	}
	want, _, ok := plainUnify(both, list{{g.Root, len(g.N) + h.Root}})
	want = graph.Trim(want)
	got, e := solve.Meet(g, h)
	if ok != (e == api.OK) || !ok && e != api.ErrType || !sameNodes(got, want) {
		t.Fatalf("Meet(%v, %v) = %v, %d, want %v, %v", g, h, got, e, want, ok)
	}
	if back, f := solve.Meet(h, g); f != e || ok && !graph.Same(got, back) {
		t.Fatalf("Meet(%v, %v) = %v, and the other way round %v, %d", g, h, got, back, f)
	}
	if self, e := solve.Meet(g, g); e != api.OK || !graph.Same(self, g) {
		t.Fatalf("Meet(%v, itself) = %v, %d", g, self, e)
	}
	for _, x := range []api.Graph{g, h} {
		if more, e := solve.Meet(got, x); ok && (e != api.OK || !graph.Same(more, got)) {
			t.Fatalf("Meet(%v, %v) = %v, of which and %v comes %v, %d", g, h, got, x, more, e)
		}
	}
	return ok
}

// nodesOf are the nodes that a graph of so many may have, of a few names and labels.
func nodesOf(size int) []api.Node {
	all := []api.Node{v, integer, shut(""), open("")}
	for i := range size {
		all = append(all, shut("m", i), open("m", i), open("n", i))
		for j := range size {
			all = append(all, arrow(i, j), times(i, j), shut("m n", i, j))
		}
	}
	return all
}

// graphsOf are all graphs of so many nodes.
func graphsOf(size int) []api.Graph {
	all := []api.Graph{{}}
	for range size {
		var more []api.Graph
		for _, g := range all {
			for _, n := range nodesOf(size) {
				more = append(more, nodes(append(slices.Clone(g.N), n)...))
			}
		}
		all = more
	}
	return all
}

// P8.1, P8.3: all graphs of up to three nodes.
func TestUnifyAll(t *testing.T) {
	one, all := 0, 0
	hold := func(g api.Graph, pairs list) {
		all++
		if wantLaws(t, g, pairs) {
			one++
		}
	}
	for size := 1; size <= 3; size++ {
		for i, g := range graphsOf(size) {
			g.Root = i % size
			hold(g, list{{size - 1, 0}})
			hold(g, list{{size / 2, 0}, {size / 2, size - 1}})
		}
	}
	if one < all/8 || one > all*4/5 {
		t.Errorf("%d of %d can be made one: they tell little", one, all)
	}
}

// P8.2, P8.3: all graphs of one and two nodes, each with each.
func TestMeetAll(t *testing.T) {
	one, graphs := 0, append(graphsOf(1), graphsOf(2)...)
	for _, g := range graphs {
		for _, h := range graphs {
			if wantMeet(t, g, h) {
				one++
			}
		}
	}
	if all := len(graphs) * len(graphs); one < all/5 || one > all*4/5 {
		t.Errorf("%d of %d can be made one: they tell little", one, all)
	}
}

// A maker makes graphs at random.
type maker struct{ *rand.Rand }

func (r maker) graph(size int, kinds []api.Node) api.Graph {
	g := api.Graph{Root: r.Intn(size)}
	for range size {
		n := kinds[r.Intn(len(kinds))]
		n.Args = slices.Clone(n.Args)
		for i := range n.Args {
			n.Args[i] = r.Intn(size)
		}
		g.N = append(g.N, n)
	}
	return g
}

func (r maker) pairs(size, most int) list {
	var pairs list
	for range r.Intn(most + 1) {
		pairs = append(pairs, [2]int{r.Intn(size), r.Intn(size)})
	}
	return pairs
}

// kinds are such nodes as may often be made one.
func kinds() [][]api.Node {
	return [][]api.Node{
		nodesOf(1),
		{v, v, v, v, arrow(0, 0), integer}, {v, v, arrow(0, 0)}, {v, v, v, times(0, 0), arrow(0, 0)},
		{v, open(""), open("a", 0), open("b c", 0, 0), open("a d", 0, 0), open("b e f", 0, 0, 0)},
		{v, v, open("a", 0), open("b", 0), open("a c", 0, 0), shut("a b c", 0, 0, 0)},
		{v, v, open("b", 0), open("a c", 0, 0), open("a b", 0, 0), open("d", 0), arrow(0, 0)},
		{shut("m", 0), open("m", 0), open(""), v},
	}
}

// P8.1 to P8.3: graphs and pairs at random; pairs in other orders.
func TestLawsAtRandom(t *testing.T) {
	r := maker{rand.New(rand.NewSource(1))}
	of := kinds()
	one := 0
	const all = 30000
	for i := range all {
		size := 1 + r.Intn(12)
		g, pairs := r.graph(size, of[i%len(of)]), r.pairs(size, 8)
		ok := wantLaws(t, g, pairs)
		if ok {
			one++
		}
		got, least, e := solve.Unify(g, pairs)
		mixed := slices.Clone(pairs)
		for i, p := range mixed {
			mixed[i] = [2]int{p[r.Intn(2)], 0}
			mixed[i][1] = p[0] + p[1] - mixed[i][0]
		}
		r.Shuffle(len(mixed), func(i, j int) { mixed[i], mixed[j] = mixed[j], mixed[i] })
		if x, y, f := solve.Unify(g, mixed); f != e || !sameNodes(x, got) || !slices.Equal(y, least) {
			t.Fatalf("Unify(%v, %v) = %v, %v, %d, and in order %v: %v, %v, %d", g, pairs, got, least, e, mixed, x, y, f)
		}
		// Some pairs first, then the others: the same type comes of it.
		if first, is, e := solve.Unify(g, pairs[:len(pairs)/2]); e == api.OK {
			var others list
			for _, p := range pairs[len(pairs)/2:] {
				others = append(others, [2]int{is[p[0]], is[p[1]]})
			}
			if x, _, f := solve.Unify(first, others); ok != (f == api.OK) || ok && !graph.Same(x, got) {
				t.Fatalf("Unify(%v, %v) = %v, and one behind the other %v, %d", g, pairs, got, x, f)
			}
		}
		wantMeet(t, g, r.graph(1+r.Intn(10), of[i%len(of)]))
	}
	if one < all/4 || one > all*9/10 {
		t.Errorf("%d of %d can be made one: they tell little", one, all)
	}
}

// P1: no call panics, whatever it is given.
func TestOfAny(t *testing.T) {
	r := maker{rand.New(rand.NewSource(2))}
	bad := append(append(badGraphs(), nodes(v)), graphsOf(1)...)
	of := nodesOf(2)
	for range 20000 {
		g, h := api.Graph{Root: r.Intn(6) - 1}, bad[r.Intn(len(bad))]
		for range r.Intn(5) {
			n := of[r.Intn(len(of))]
			if r.Intn(9) == 0 {
				n = api.Node{Kind: r.Intn(5), Args: []int{r.Intn(6) - 1}}
			}
			g.N = append(g.N, n)
		}
		pairs := list{{r.Intn(7) - 2, r.Intn(7) - 2}, {r.Intn(4), 0}}
		inside := !slices.ContainsFunc(pairs, func(p [2]int) bool { return min(p[0], p[1]) < 0 || max(p[0], p[1]) >= len(g.N) })
		switch {
		case graph.Check(g) != api.OK || !inside:
			wantNone(t, g, pairs, api.ErrArg)
		default:
			wantLaws(t, g, pairs)
		}
		switch {
		case graph.Check(g) != api.OK || graph.Check(h) != api.OK:
			wantNoMeet(t, g, h, api.ErrArg)
			wantNoMeet(t, h, g, api.ErrArg)
		default:
			wantMeet(t, g, h)
		}
	}
}

// spared is a graph whose lists have spare room.
func spared(g api.Graph) api.Graph {
	h := api.Graph{N: append(make([]api.Node, 0, len(g.N)+2), g.N...), Root: g.Root}
	for i, n := range g.N {
		h.N[i].Args = append(append(make([]int, 0, 8), n.Args...), 77, 78)[:len(n.Args)]
		h.N[i].Labels = append(append(make([]string, 0, 8), n.Labels...), "spare", "room")[:len(n.Labels)]
	}
	return h
}

// whole is a graph with the spare room of its lists.
func whole(g api.Graph) api.Graph {
	h := api.Graph{N: slices.Clone(g.N[:cap(g.N)]), Root: g.Root}
	for i, n := range h.N {
		h.N[i].Args = slices.Clone(n.Args[:cap(n.Args)])
		h.N[i].Labels = slices.Clone(n.Labels[:cap(n.Labels)])
	}
	return h
}

// wantOwn holds an answer to memory of its own: what one list of it has room for is written over, and no other one is changed.
func wantOwn(t *testing.T, g, want api.Graph) {
	t.Helper()
	for i := range g.N {
		args, labels := g.N[i].Args, g.N[i].Labels
		fill(args[len(args):cap(args)], -5)
		fill(labels[len(labels):cap(labels)], "?")
	}
	if !sameNodes(g, want) {
		t.Errorf("%v, and not %v: a list's spare room is another one's", g, want)
	}
	for i := range g.N {
		fill(g.N[i].Args, -5)
		fill(g.N[i].Labels, "?")
		if rest := g.N[i+1:]; !sameNodes(nodes(rest...), nodes(want.N[i+1:]...)) {
			t.Errorf("node %d of %v shares memory with one behind it", i, want)
		}
	}
	fill(g.N[:cap(g.N)], api.Node{Kind: -5})
}

func fill[T any](list []T, with T) {
	for i := range list {
		list[i] = with
	}
}

// What is handed in is left as it is; what is answered is new memory, and no two lists of it share any.
func TestMemory(t *testing.T) {
	r := maker{rand.New(rand.NewSource(3))}
	of := kinds()
	for i := range 3000 {
		size := 1 + r.Intn(6)
		g, h, pairs := r.graph(size, of[i%len(of)]), r.graph(1+r.Intn(6), of[i%len(of)]), r.pairs(size, 3)
		want, least, _ := solve.Unify(g, pairs)
		met, _ := solve.Meet(g, h)
		inG, inH := spared(g), spared(h)
		inPairs := append(append(make(list, 0, 9), pairs...), [2]int{-7, -7})[:len(pairs)]
		wasG, wasH, wasPairs := whole(inG), whole(inH), slices.Clone(inPairs[:cap(inPairs)])
		for range 2 {
			got, of, _ := solve.Unify(inG, inPairs)
			if !slices.Equal(of, least) {
				t.Errorf("Unify(%v, %v) tells %v, and not %v", g, pairs, of, least)
			}
			fill(of[:cap(of)], -5)
			wantOwn(t, got, want)
			both, _ := solve.Meet(inG, inH)
			wantOwn(t, both, met)
		}
		if !reflect.DeepEqual(whole(inG), wasG) || !reflect.DeepEqual(whole(inH), wasH) || !slices.Equal(inPairs[:cap(inPairs)], wasPairs) {
			t.Fatalf("%v, %v, %v are changed", wasG, wasH, wasPairs)
		}
	}
}
