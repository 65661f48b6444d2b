package canon_test

import (
	"math/rand"
	"reflect"
	"slices"
	"strconv"
	"strings"
	"testing"

	"trefoil/api"
	"trefoil/canon"
	"trefoil/graph"
)

func isFree(n api.Node) bool { return n.Kind == api.NVar || n.Open }

// plainClasses tells of each node the least one that it is alike to in another way: of all pairs those that differ are told, again and again, till nothing comes of it.
func plainClasses(g api.Graph) []int {
	differ := map[[2]int]bool{}
	for i, x := range g.N {
		for j, y := range g.N {
			if i != j && (isFree(x) || isFree(y) || x.Kind != y.Kind || x.Name != y.Name || !slices.Equal(x.Labels, y.Labels)) {
				differ[[2]int{i, j}] = true
			}
		}
	}
	for more := true; more; {
		more = false
		for i, x := range g.N {
			for j, y := range g.N {
				for place := 0; !differ[[2]int{i, j}] && place < len(x.Args); place++ {
					if differ[[2]int{x.Args[place], y.Args[place]}] {
						differ[[2]int{i, j}], more = true, true
					}
				}
			}
		}
	}
	least := make([]int, len(g.N))
	for i := range g.N {
		for differ[[2]int{i, least[i]}] {
			least[i]++
		}
	}
	return least
}

// plainOrder tells a graph's nodes in order: by calls within calls.
func plainOrder(g api.Graph, at int, order []int) []int {
	if slices.Contains(order, at) {
		return order
	}
	order = append(order, at)
	for _, arg := range g.N[at].Args {
		order = plainOrder(g, arg, order)
	}
	return order
}

// plainLeast is the least graph, by what the nodes' classes are.
func plainLeast(g api.Graph, classes []int) api.Graph {
	h := api.Graph{Root: classes[g.Root]}
	for _, n := range g.N {
		n.Args = slices.Clone(n.Args)
		for i, arg := range n.Args {
			n.Args[i] = classes[arg]
		}
		h.N = append(h.N, n)
	}
	order := plainOrder(h, h.Root, nil)
	var least api.Graph
	for _, at := range order {
		n := h.N[at]
		for i, arg := range n.Args {
			n.Args[i] = slices.Index(order, arg)
		}
		least.N = append(least.N, n)
	}
	return least
}

// plainKey is the key of a graph that is the least one.
func plainKey(g api.Graph) string {
	var text strings.Builder
	for _, n := range g.N {
		words := []string{n.Name}
		switch {
		case n.Kind == api.NVar:
			words[0] = "v"
		case n.Kind == api.NObj && n.Open:
			words[0] = "<.."
		case n.Kind == api.NObj:
			words[0] = "<"
		}
		words = append(words, n.Labels...)
		for _, arg := range n.Args {
			words = append(words, strconv.Itoa(arg))
		}
		text.WriteString(strings.Join(words, " ") + ";")
	}
	return text.String()
}

// wantLaws holds what is told of a graph to the plain telling, and to P9.3.
func wantLaws(t *testing.T, g api.Graph) {
	t.Helper()
	classes := plainClasses(g)
	least := plainLeast(g, classes)
	wantLeast(t, g, classes, least, plainKey(least))
	got := canon.Least(g)
	if graph.Check(got) != api.OK || !graph.Same(g, got) || len(got.N) > len(graph.Reach(g)) {
		t.Fatalf("Least(%v) = %v", g, got)
	}
	if again := canon.Least(got); !sameNodes(again, got) || canon.Key(got) != canon.Key(g) {
		t.Fatalf("Least(%v) = %v, and its own is %v", g, got, again)
	}
	for i, of := range canon.Classes(got) {
		if i != of {
			t.Fatalf("Least(%v) = %v: nodes %d and %d are alike", g, got, i, of)
		}
	}
	if t.Failed() {
		t.FailNow()
	}
}

// wantPair holds two graphs to P9.3, and says whether they are the same type.
func wantPair(t *testing.T, g, h api.Graph) bool {
	t.Helper()
	same := graph.Same(g, h)
	if sameNodes(canon.Least(g), canon.Least(h)) != same || (canon.Key(g) == canon.Key(h)) != same {
		t.Fatalf("%v and %v: %v", g, h, same)
	}
	return same
}

// nodesOf are the nodes that a graph of so many may have, of a few names and labels.
func nodesOf(size int) []api.Node {
	all := []api.Node{v, integer, shut(""), open("")}
	for i := range size {
		all = append(all, shut("m", i), open("m", i), shut("n", i))
		for j := range size {
			all = append(all, arrow(i, j), times(i, j), shut("m n", i, j))
		}
	}
	return all
}

// graphsOf are all graphs of so many nodes.
func graphsOf(size int) []api.Graph {
	all := []api.Graph{{}}
	for range size {
		var more []api.Graph
		for _, g := range all {
			for _, n := range nodesOf(size) {
				more = append(more, nodes(append(slices.Clone(g.N), n)...))
			}
		}
		all = more
	}
	return all
}

// P9.1 to P9.3: all graphs of up to three nodes.
func TestLawsOfAll(t *testing.T) {
	for size := 1; size <= 3; size++ {
		for i, g := range graphsOf(size) {
			g.Root = i % size
			wantLaws(t, g)
		}
	}
}

// P9.3: all graphs of one and two nodes, each with each.
func TestPairsOfAll(t *testing.T) {
	all := append(graphsOf(1), graphsOf(2)...)
	same := 0
	for _, g := range all {
		for _, h := range all {
			if wantPair(t, g, h) {
				same++
			}
		}
	}
	if same <= len(all) {
		t.Errorf("%d of %d are the same: they tell little", same, len(all)*len(all))
	}
}

// A maker makes graphs at random.
type maker struct{ *rand.Rand }

func (r maker) graph(size int, kinds []api.Node) api.Graph {
	g := api.Graph{Root: r.Intn(size)}
	for range size {
		n := kinds[r.Intn(len(kinds))]
		n.Args = slices.Clone(n.Args)
		for i := range n.Args {
			n.Args[i] = r.Intn(size)
		}
		g.N = append(g.N, n)
	}
	return g
}

// copied is a graph with some nodes more, which are as others are, and lead where those lead, or to others that are as these; free nodes have none such. It tells of each node the one that it is as, too.
func (r maker) copied(g api.Graph) (api.Graph, []int) {
	var h api.Graph
	var of []int
	like := make([][]int, len(g.N))
	for _, at := range append(r.Perm(len(g.N)), r.Perm(len(g.N))...) {
		if len(like[at]) == 0 || !isFree(g.N[at]) {
			like[at] = append(like[at], len(of))
			of = append(of, at)
		}
	}
	for _, at := range of {
		n := g.N[at]
		n.Args = slices.Clone(n.Args)
		for i, arg := range n.Args {
			n.Args[i] = like[arg][r.Intn(len(like[arg]))]
		}
		h.N = append(h.N, n)
	}
	h.Root = like[g.Root][r.Intn(len(like[g.Root]))]
	return h, of
}

// spoilt is a graph in which one node is another one, or one Arg leads elsewhere.
func (r maker) spoilt(g api.Graph) api.Graph {
	h := api.Graph{N: slices.Clone(g.N), Root: g.Root}
	at := r.Intn(len(h.N))
	n := &h.N[at]
	n.Args = slices.Clone(n.Args)
	if len(n.Args) > 0 && r.Intn(2) == 0 {
		n.Args[r.Intn(len(n.Args))] = r.Intn(len(h.N))
	} else {
		*n = r.graph(len(h.N), nodesOf(1)).N[at]
	}
	return h
}

// kinds are such nodes as may often be alike.
func kinds() [][]api.Node {
	return [][]api.Node{
		nodesOf(1),
		{arrow(0, 0), v}, {shut("m", 0), open("m", 0), arrow(0, 0)}, {arrow(0, 0), shut("m", 0), times(0, 0)}, {arrow(0, 0), arrow(0, 0), arrow(0, 0), integer, open("")},
		{shut("m", 0), shut("m", 0), shut("m", 0), integer}, {shut("m", 0), shut("m", 0), shut("m", 0), shut("m", 0), shut("n", 0)}, {shut("a b c d", 0, 0, 0, 0), shut("a b c d", 0, 0, 0, 0), arrow(0, 0)}, {integer, boolean, times(0, 0), times(0, 0), times(0, 0)},
	}
}

// P9.1 to P9.3: graphs at random, what is the same by its making, and what is nearly so.
func TestLawsAtRandom(t *testing.T) {
	r := maker{rand.New(rand.NewSource(1))}
	many := kinds()
	differ := 0
	for i := range 9000 {
		g := r.graph(1+r.Intn(14), many[i%len(many)])
		wantLaws(t, g)
		h, of := r.copied(g)
		k, _ := r.copied(h)
		if !wantPair(t, g, h) || !wantPair(t, k, g) {
			t.Fatalf("%v is not %v", g, h)
		}
		classes, copies := canon.Classes(g), canon.Classes(h)
		for x := range h.N {
			for y := range h.N[:x] {
				if (copies[x] == copies[y]) != (classes[of[x]] == classes[of[y]]) {
					t.Fatalf("Classes(%v) = %v, and not as of %v, %v", h, copies, g, classes)
				}
			}
		}
		for _, x := range []api.Graph{r.spoilt(h), r.spoilt(g), r.graph(1+r.Intn(14), many[i%len(many)])} {
			if !wantPair(t, g, x) {
				differ++
			}
		}
	}
	if differ < 9000 || differ > 26000 {
		t.Errorf("%d of 27000 differ: the graphs tell little", differ)
	}
}

// P9.1, P9.3: greater graphs, of which most nodes are alike, and of which few are.
func TestLawsOfGreater(t *testing.T) {
	r := maker{rand.New(rand.NewSource(2))}
	many := kinds()
	for i := range 300 {
		g := r.graph(30+r.Intn(30), many[i%len(many)])
		wantLaws(t, g)
		h, _ := r.copied(canon.Least(g))
		wantLaws(t, h)
		wantPair(t, g, h)
	}
}

// P1: no call panics, whatever it is given.
func TestOfAny(t *testing.T) {
	r := maker{rand.New(rand.NewSource(3))}
	of := nodesOf(3)
	for range 20000 {
		g := api.Graph{Root: r.Intn(6) - 1}
		for range r.Intn(6) {
			n := of[r.Intn(len(of))]
			if r.Intn(9) == 0 {
				n = api.Node{Kind: r.Intn(5), Args: []int{r.Intn(6) - 1}}
			}
			g.N = append(g.N, n)
		}
		if graph.Check(g) == api.OK {
			wantLaws(t, g)
		} else {
			wantNothing(t, g)
		}
	}
}

// chain is a graph of so many nodes, each of which leads to the next, but for the last one.
func chain(size int, last api.Node) api.Graph {
	var g api.Graph
	for i := range size - 1 {
		g.N = append(g.N, shut("m", i+1))
	}
	g.N = append(g.N, last)
	return g
}

// count are so many numbers, from one on, by steps.
func count(size, from, step int) []int {
	list := make([]int, size)
	for i := range list {
		list[i] = from + i*step
	}
	return list
}

// wantMany holds a great graph to its classes; it is trimmed, and its key is told, too.
func wantMany(t *testing.T, g api.Graph, classes []int, size int) {
	t.Helper()
	got := canon.Classes(g)
	if !slices.Equal(got, classes) {
		t.Errorf("Classes(%s) = %s, want %s", brief(g), brief(got), brief(classes))
	}
	least := canon.Least(g)
	if len(least.N) != size || !graph.Same(g, least) || canon.Key(g) != plainKey(least) {
		t.Errorf("Least(%s) = %s, of %d nodes, want %d", brief(g), brief(least), len(least.N), size)
	}
}

// P9.1: as many nodes as there may be. What is told apart one step at a time must not be looked at as a whole at each step.
func TestOfMany(t *testing.T) {
	const most = api.MaxNodes
	const fewer = 1 << 16
	for _, last := range []api.Node{v, shut(""), open("m", 0), shut("n", 0)} {
		wantMany(t, chain(fewer, last), count(fewer, 0, 1), fewer)
	}
	wantMany(t, chain(most, integer), count(most, 0, 1), most)
	wantMany(t, chain(most, shut("m", 0)), make([]int, most), 1)
	wantMany(t, chain(most, shut("m", most/3)), make([]int, most), 1)
	wantMany(t, repeated(most, v), count(most, 0, 1), 1)
	wantMany(t, repeated(most, integer), make([]int, most), 1)
	wantMany(t, repeated(most, arrow(most-1, 0)), make([]int, most), 1)
	// Two chains, of which each node is alike to one of the other.
	two := chain(most/2, integer)
	for i := range most / 2 {
		n := shut("m", most/2+i+1)
		if i == most/2-1 {
			n = integer
		}
		two.N = append(two.N, n)
	}
	wantMany(t, two, slices.Concat(count(most/2, 0, 1), count(most/2, 0, 1)), most/2)
	// A tree, of whose nodes all of one height are alike.
	var tree api.Graph
	var heights []int
	for i := range most - 1 {
		n := integer
		if 2*i+2 < most-1 {
			n = times(2*i+1, 2*i+2)
		}
		tree.N = append(tree.N, n)
		least := 0
		for 2*least+2 <= i+1 {
			least = 2*least + 1
		}
		heights = append(heights, least)
	}
	wantMany(t, tree, heights, 20)
}

// P9.1: nodes of two Args, which come to be told apart one by one, by halves, or a few at a time.
func TestOfManyRounds(t *testing.T) {
	const most = 1 << 17
	var ones, halves, ends api.Graph
	var trailing []int
	for i := range most {
		ones.N = append(ones.N, times((i+1)%most, i/2))
		halves.N = append(halves.N, times(2*i%most, (2*i+1)%most))
		ends.N = append(ends.N, times(2*i%most, (2*i+1)%most))
		if i >= most/2 {
			halves.N[i] = arrow(2*i%most, (2*i+1)%most)
		}
		// Alike are those whose last digits of base 2 are as many ones.
		trailing = append(trailing, i&^(i+1)&(i^(i+1)))
	}
	ones.N[most-1], ends.N[most-1] = arrow(0, 0), arrow(0, most-1)
	wantMany(t, ones, count(most, 0, 1), most)
	wantMany(t, halves, count(most, 0, 1), most)
	wantMany(t, ends, trailing, 18)
	r := maker{rand.New(rand.NewSource(4))}
	g := r.graph(most, []api.Node{times(0, 0), times(0, 0), times(0, 0), arrow(0, 0)})
	h, _ := r.copied(g)
	if canon.Key(g) != canon.Key(h) || len(canon.Least(h).N) > most {
		t.Error("a graph and its copy")
	}
}

// P9.1: objects of many labels, whose Args are told apart one step at a time.
func TestOfManyLabels(t *testing.T) {
	const many = 100000
	var labels []string
	for i := range many {
		labels = append(labels, "m"+strconv.Itoa(many+i))
	}
	g := chain(many, integer)
	wide := api.Node{Kind: api.NObj, Labels: labels, Args: count(many, 0, 1)}
	other := api.Node{Kind: api.NObj, Labels: labels, Args: count(many, 0, 1)}
	other.Args[many-1] = many
	g.N = append(g.N, integer, wide, other, wide, times(many+1, many+2))
	g.Root = many + 4
	wantMany(t, g, append(count(many, 0, 1), many-1, many+1, many+1, many+1, many+4), many+2)
	g.N[many] = boolean
	wantMany(t, g, append(count(many, 0, 1), many, many+1, many+2, many+1, many+4), many+4)
	// Labels that differ in the last one alone.
	last := slices.Clone(labels)
	last[many-1] = "z"
	g.N[many] = integer
	g.N[many+2].Labels = last
	wantMany(t, g, append(count(many, 0, 1), many-1, many+1, many+2, many+1, many+4), many+3)
}

// spared is a graph whose lists have spare room.
func spared(g api.Graph) api.Graph {
	h := api.Graph{N: append(make([]api.Node, 0, len(g.N)+2), g.N...), Root: g.Root}
	for i, n := range g.N {
		h.N[i].Args = append(append(make([]int, 0, 8), n.Args...), 77, 78)[:len(n.Args)]
		h.N[i].Labels = append(append(make([]string, 0, 8), n.Labels...), "spare", "room")[:len(n.Labels)]
	}
	return h
}

// whole is a graph with the spare room of its lists.
func whole(g api.Graph) api.Graph {
	h := api.Graph{N: slices.Clone(g.N[:cap(g.N)]), Root: g.Root}
	for i, n := range h.N {
		h.N[i].Args = slices.Clone(n.Args[:cap(n.Args)])
		h.N[i].Labels = slices.Clone(n.Labels[:cap(n.Labels)])
	}
	return h
}

func fill[T any](list []T, with T) {
	for i := range list {
		list[i] = with
	}
}

// wantOwn holds an answer to memory of its own: what one list of it has room for is written over, and no other one is changed.
func wantOwn(t *testing.T, g, want api.Graph) {
	t.Helper()
	for i := range g.N {
		args, labels := g.N[i].Args, g.N[i].Labels
		fill(args[len(args):cap(args)], -5)
		fill(labels[len(labels):cap(labels)], "?")
	}
	if !sameNodes(g, want) {
		t.Errorf("%v, and not %v: a list's spare room is another one's", g, want)
	}
	for i := range g.N {
		fill(g.N[i].Args, -5)
		fill(g.N[i].Labels, "?")
		if rest := g.N[i+1:]; !sameNodes(nodes(rest...), nodes(want.N[i+1:]...)) {
			t.Errorf("node %d of %v shares memory with one behind it", i, want)
		}
	}
	fill(g.N[:cap(g.N)], api.Node{Kind: -5})
}

// What is handed in is left as it is; what is answered is new memory, and no two lists of it share any.
func TestMemory(t *testing.T) {
	r := maker{rand.New(rand.NewSource(5))}
	many := kinds()
	for i := range 3000 {
		g := r.graph(1+r.Intn(7), many[i%len(many)])
		classes, least, key := canon.Classes(g), canon.Least(g), canon.Key(g)
		in := spared(g)
		was := whole(in)
		for range 2 {
			got := canon.Classes(in)
			if !slices.Equal(got, classes) || canon.Key(in) != key {
				t.Fatalf("Classes(%v) = %v, Key %s; before %v, %s", g, got, canon.Key(in), classes, key)
			}
			fill(got[:cap(got)], -5)
			wantOwn(t, canon.Least(in), least)
		}
		if !reflect.DeepEqual(whole(in), was) {
			t.Fatalf("%v is changed to %v", was, whole(in))
		}
	}
}
