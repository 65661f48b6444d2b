package sub_test

import (
	"math/rand"
	"reflect"
	"slices"
	"strconv"
	"testing"

	"trefoil/api"
	"trefoil/graph"
	"trefoil/inst"
	"trefoil/sub"
)

// A table tells of two nodes whether the one of g may stand for the one of h, and whether the one of h may for the one of g.
type table [2][][]bool

// may says whether a node may stand for another one, if the table is right of their Args; back, if it is one of h for one of g.
func (t *table) may(n, m api.Node, back int) bool {
	if n.Kind != m.Kind || n.Name != m.Name {
		return false
	}
	args := func(i, j, back int) bool {
		if back == 1 {
			i, j = j, i
		}
		return t[back][i][j]
	}
	switch {
	case n.Name == "->":
		return args(m.Args[0], n.Args[0], 1-back) && args(n.Args[1], m.Args[1], back)
	case n.Name == "*":
		return args(n.Args[0], m.Args[0], back) && args(n.Args[1], m.Args[1], back)
	}
	for j, label := range m.Labels {
		i := slices.Index(n.Labels, label)
		if i < 0 || !args(n.Args[i], m.Args[j], back) {
			return false
		}
	}
	return true
}

// plainIs says whether g may stand for h in another way: all nodes may stand for all, till one is found that may not.
func plainIs(g, h api.Graph) bool {
	var t table
	for back := range t {
		for range g.N {
			t[back] = append(t[back], slices.Repeat([]bool{true}, len(h.N)))
		}
	}
	for changed := true; changed; {
		changed = false
		for i, n := range g.N {
			for j, m := range h.N {
				was := [2]bool{t[0][i][j], t[1][i][j]}
				t[0][i][j], t[1][i][j] = was[0] && t.may(n, m, 0), was[1] && t.may(m, n, 1)
				changed = changed || was != [2]bool{t[0][i][j], t[1][i][j]}
			}
		}
	}
	return t[0][g.Root][h.Root]
}

// plainForget is a graph without a label of its Root.
func plainForget(g api.Graph, label string) api.Graph {
	root := g.N[g.Root]
	own := api.Node{Kind: root.Kind, Open: root.Open}
	for i, other := range root.Labels {
		if other != label {
			own.Labels = append(own.Labels, other)
			own.Args = append(own.Args, root.Args[i]+1)
		}
	}
	h := nodes(own)
	for _, n := range g.N {
		n.Args = slices.Clone(n.Args)
		for i := range n.Args {
			n.Args[i]++
		}
		h.N = append(h.N, n)
	}
	return graph.Trim(h)
}

// joined are two graphs' nodes and one more, that leads to both Roots.
func joined(top func(a, b int) api.Node, g, h api.Graph) api.Graph {
	k := nodes(top(g.Root+1, h.Root+1+len(g.N)))
	for i, n := range append(slices.Clone(g.N), h.N...) {
		shift := 1
		if i >= len(g.N) {
			shift += len(g.N)
		}
		n.Args = slices.Clone(n.Args)
		for place := range n.Args {
			n.Args[place] += shift
		}
		k.N = append(k.N, n)
	}
	return k
}

// wantForgotten holds what is told of a graph without each of some labels to the plain telling, and to P12.3.
func wantForgotten(t *testing.T, g api.Graph) {
	t.Helper()
	root := g.N[g.Root]
	for _, label := range []string{"a", "m", "n", "", root.Name} {
		if !slices.Contains(root.Labels, label) {
			wantNoForget(t, g, label, api.ErrNone)
			continue
		}
		wantForget(t, g, label, plainForget(g, label))
		less, _ := sub.Forget(g, label)
		if graph.Check(less) != api.OK {
			t.Errorf("Forget(%v, %s) = %v", g, label, less)
		}
		if inst.Closed(g) {
			wantIs(t, g, less, true, false)
		}
	}
	if t.Failed() {
		t.FailNow()
	}
}

// wantPair holds two closed graphs to the plain telling and to P12.3, and says whether the first one may stand for the second one.
func wantPair(t *testing.T, g, h api.Graph) bool {
	t.Helper()
	is, back := plainIs(g, h), plainIs(h, g)
	wantIs(t, g, h, is, back)
	if graph.Same(g, h) != (is && back) {
		t.Errorf("%v and %v may stand for one another: %v, %v", g, h, is, back)
	}
	if t.Failed() {
		t.FailNow()
	}
	return is
}

// wantTurned holds functions and pairs of closed graphs to P12.3.
func wantTurned(t *testing.T, g, h, k api.Graph) {
	t.Helper()
	gh, hg := plainIs(g, h), plainIs(h, g)
	wantIs(t, joined(arrow, g, k), joined(arrow, h, k), hg, gh)
	wantIs(t, joined(arrow, k, g), joined(arrow, k, h), gh, hg)
	wantIs(t, joined(arrow, h, g), joined(arrow, g, h), gh, hg)
	wantIs(t, joined(arrow, g, g), joined(arrow, h, h), gh && hg, gh && hg)
	wantIs(t, joined(times, g, g), joined(times, h, h), gh, hg)
	wantIs(t, joined(times, g, k), joined(times, h, k), gh, hg)
	wantIs(t, joined(times, g, h), joined(times, h, g), gh && hg, gh && hg)
	if t.Failed() {
		t.FailNow()
	}
}

// nodesOf are the closed nodes that a graph of so many may have, of a few names and labels.
func nodesOf(size int) []api.Node {
	all := []api.Node{integer, unit, shut("")}
	for i := range size {
		all = append(all, shut("m", i), shut("n", i))
		for j := range size {
			all = append(all, arrow(i, j), times(i, j), shut("m n", i, j))
		}
	}
	return all
}

// graphsOf are all graphs of so many nodes.
func graphsOf(size int) []api.Graph {
	all := []api.Graph{{}}
	for range size {
		var more []api.Graph
		for _, g := range all {
			for _, n := range nodesOf(size) {
				more = append(more, nodes(append(slices.Clone(g.N), n)...))
			}
		}
		all = more
	}
	return all
}

// P12.1, P12.2, P12.3: all graphs of up to three nodes; each with one of up to three.
func TestLawsOfAll(t *testing.T) {
	few := append(graphsOf(1), graphsOf(2)...)
	for size := 1; size <= 3; size++ {
		for i, g := range graphsOf(size) {
			g.Root = i % size
			wantForgotten(t, g)
			wantIs(t, g, g, true, true)
			wantPair(t, g, few[i*7%len(few)])
			wantPair(t, few[i*11%len(few)], g)
		}
	}
}

// P12.1, P12.3: all graphs of one and two nodes, each with each; what may stand for what may stand for a third one may for that.
func TestPairsOfAll(t *testing.T) {
	all := append(graphsOf(1), graphsOf(2)...)
	of := make([][]int, len(all))
	type pair struct{ i, j int }
	is := map[pair]bool{}
	for i, g := range all {
		for j, h := range all {
			if wantPair(t, g, h) {
				of[i] = append(of[i], j)
				is[pair{i, j}] = true
			}
			if (i*len(all)+j)%7 == 0 {
				wantTurned(t, g, h, all[(i+j)%len(all)])
			}
		}
	}
	if len(is) < 10*len(all) || len(is) > len(all)*len(all)/4 {
		t.Errorf("%d of %d may stand for others: they tell little", len(is), len(all)*len(all))
	}
	for i := range all {
		for _, j := range of[i] {
			for _, k := range of[j] {
				if !is[pair{i, k}] {
					t.Fatalf("%v, for %v, for %v", all[i], all[j], all[k])
				}
			}
		}
	}
}

// A maker makes graphs at random.
type maker struct{ *rand.Rand }

func (r maker) graph(size int, kinds []api.Node) api.Graph {
	g := api.Graph{Root: r.Intn(size)}
	for range size {
		n := kinds[r.Intn(len(kinds))]
		n.Args = slices.Clone(n.Args)
		for i := range n.Args {
			n.Args[i] = r.Intn(size)
		}
		g.N = append(g.N, n)
	}
	return g
}

// spoilt is a graph in which one node is another one, or one Arg leads elsewhere.
func (r maker) spoilt(g api.Graph) api.Graph {
	h := api.Graph{N: slices.Clone(g.N), Root: g.Root}
	at := r.Intn(len(h.N))
	n := &h.N[at]
	n.Args = slices.Clone(n.Args)
	if len(n.Args) > 0 && r.Intn(2) == 0 {
		n.Args[r.Intn(len(n.Args))] = r.Intn(len(h.N))
	} else {
		*n = r.graph(len(h.N), nodesOf(1)).N[at]
	}
	return h
}

// A side is a node of a graph, as what is stood for, or, where that is turned around, as what stands.
type side struct {
	at     int
	turned bool
}

// A raiser makes a graph that another one may stand for, by its making.
type raiser struct {
	maker
	g, h  api.Graph
	of    []side
	like  map[side][]int // a node's places in h, as each side
	every int            // one label of so many is taken away, or is new
}

// raised is a graph that a closed one may stand for: each side of its nodes is there once or twice, with less labels; with more, if it is turned around.
func (r maker) raised(g api.Graph, every int) api.Graph {
	s := raiser{maker: r, g: g, like: map[side][]int{}, every: every}
	for _, at := range append(r.Perm(len(g.N)), r.Perm(len(g.N))...) {
		for _, turned := range []bool{false, true} {
			k := side{at, turned}
			if len(s.like[k]) == 0 || r.Intn(3) == 0 {
				s.like[k] = append(s.like[k], len(s.of))
				s.of = append(s.of, k)
			}
		}
	}
	for _, k := range s.of {
		s.h.N = append(s.h.N, s.node(k))
	}
	s.h.Root = s.place(side{g.Root, false})
	return s.h
}

func (s *raiser) place(k side) int {
	places := s.like[k]
	return places[s.Intn(len(places))]
}

func (s *raiser) node(k side) api.Node {
	n := s.g.N[k.at]
	if n.Kind == api.NObj {
		return s.object(k, n)
	}
	m := con(n.Name)
	for i, arg := range n.Args {
		m.Args = append(m.Args, s.place(side{arg, k.turned != (n.Name == "->" && i == 0)}))
	}
	return m
}

func (s *raiser) object(k side, n api.Node) api.Node {
	m := api.Node{Kind: api.NObj}
	for _, label := range []string{"a", "m", "mm", "n", "z"} {
		place := slices.Index(n.Labels, label)
		other := s.Intn(s.every) == 0
		if place >= 0 && (k.turned || !other) {
			m.Labels = append(m.Labels, label)
			m.Args = append(m.Args, s.place(side{n.Args[place], k.turned}))
		} else if place < 0 && k.turned && other {
			m.Labels = append(m.Labels, label)
			m.Args = append(m.Args, s.Intn(len(s.of)))
		}
	}
	return m
}

// kinds are such nodes as often may stand for one another.
func kinds() [][]api.Node {
	a := arrow(0, 0)
	return [][]api.Node{
		nodesOf(1),
		{a, shut("m", 0)}, {a, shut("m", 0), shut("")}, {shut("m", 0), shut("m n", 0, 0)}, {shut("m", 0), shut("m", 0), shut("m", 0), shut("m n", 0, 0)}, {a, a, a, shut("m", 0), shut("m n", 0, 0)}, {a, times(0, 0), times(0, 0), shut("m n", 0, 0), shut("a m n z", 0, 0, 0, 0)},
		{shut("a m n z", 0, 0, 0, 0), shut("m n", 0, 0), shut("a m mm", 0, 0, 0), boolean}, {a, a, times(0, 0), integer, shut("m z", 0, 0)}, {shut("a m mm n z", 0, 0, 0, 0, 0), a, shut("a z", 0, 0)},
	}
}

// P12.1, P12.2, P12.3: graphs at random, what they may stand for by its making, and what they nearly may.
func TestLawsAtRandom(t *testing.T) {
	r := maker{rand.New(rand.NewSource(1))}
	many := kinds()
	is, more := 0, 0
	for i := range 5000 {
		g := r.graph(1+r.Intn(7), many[i%len(many)])
		h := r.raised(g, 1+r.Intn(20))
		k := r.raised(h, 1+r.Intn(20))
		wantForgotten(t, g)
		wantForgotten(t, k)
		if !wantPair(t, g, h) || !wantPair(t, h, k) || !wantPair(t, g, k) {
			t.Fatalf("%v may not stand for %v, or that not for %v", g, h, k)
		}
		if !plainIs(h, g) {
			more++
		}
		wantTurned(t, g, h, k)
		for _, x := range []api.Graph{r.spoilt(g), r.spoilt(h), r.graph(1+r.Intn(7), many[i%len(many)])} {
			if wantPair(t, x, h) {
				is++
			}
		}
	}
	if is < 2000 || is > 12000 || more < 1500 || more > 4500 {
		t.Errorf("%d of 15000 may stand, %d of 5000 have more than what they may stand for: the graphs tell little", is, more)
	}
}

// P12.1, P12.3: greater graphs.
func TestLawsOfGreater(t *testing.T) {
	r := maker{rand.New(rand.NewSource(2))}
	many := kinds()
	for i := range 1000 {
		g := r.graph(20+r.Intn(30), many[i%len(many)])
		h := r.raised(g, 5+r.Intn(100))
		if !wantPair(t, g, h) {
			t.Fatalf("%v may not stand for %v", g, h)
		}
		wantPair(t, g, r.spoilt(h))
		wantPair(t, r.spoilt(g), h)
	}
}

// P1: no call panics, whatever it is given.
func TestOfAny(t *testing.T) {
	r := maker{rand.New(rand.NewSource(3))}
	of := append(nodesOf(3), v, open("m", 0))
	last := nodes(unit)
	for range 20000 {
		g := api.Graph{Root: r.Intn(6) - 1}
		for range r.Intn(6) {
			n := of[r.Intn(len(of))]
			if r.Intn(9) == 0 {
				n = api.Node{Kind: r.Intn(5), Args: []int{r.Intn(6) - 1}, Labels: []string{"m"}[:r.Intn(2)]}
			}
			g.N = append(g.N, n)
		}
		if graph.Check(g) != api.OK {
			wantNoForget(t, g, "m", api.ErrArg)
			wantError(t, g, last, api.ErrArg)
			wantError(t, last, g, api.ErrArg)
			continue
		}
		wantForgotten(t, g)
		if !inst.Closed(g) {
			wantError(t, g, last, api.ErrArg)
			wantError(t, last, g, api.ErrArg)
			continue
		}
		wantPair(t, last, g)
		last = g
	}
}

// chain is a graph of so many nodes, each of which leads to the next, but for the last one.
func chain(size int, each func(next int) api.Node, last api.Node) api.Graph {
	var g api.Graph
	for i := range size - 1 {
		g.N = append(g.N, each(i+1))
	}
	g.N = append(g.N, last)
	return g
}

var onlyM, both = []string{"m"}, []string{"m", "n"}

func shutTo(next int) api.Node {
	return api.Node{Kind: api.NObj, Labels: onlyM, Args: []int{next}}
}
func bothTo(next int) api.Node {
	return api.Node{Kind: api.NObj, Labels: both, Args: []int{next, next}}
}
func arrowTo(next int) api.Node { return arrow(next, next) }

// P12.1, P12.2: as many nodes as there may be, one behind the other, and around.
func TestOfMany(t *testing.T) {
	const most = api.MaxNodes
	shuts, arrows := chain(most, shutTo, integer), chain(most, arrowTo, integer)
	for _, x := range []struct {
		g, h api.Graph
		is   bool
	}{
		{chain(most, bothTo, integer), shuts, true}, {shuts, chain(most-1, shutTo, integer), false}, {arrows, arrows, true}, {arrows, chain(most, arrowTo, shut("")), false},
	} {
		if got, e := sub.Is(x.g, x.h); got != x.is || e != api.OK {
			t.Errorf("Is(%s, %s) = %v, %d", brief(x.g), brief(x.h), got, e)
		}
	}
	if less, e := sub.Forget(shuts, "m"); e == api.OK && len(less.N) > most {
		t.Errorf("Forget(%s) = %s", brief(shuts), brief(less))
	}
	shuts.N = shuts.N[:most-1]
	shuts.N[most-2] = bothTo(0)
	shuts.Root = most - 2
	less, e := sub.Forget(shuts, "n")
	if e != api.OK || len(less.N) != most {
		t.Fatalf("Forget(%s) = %s, %d", brief(shuts), brief(less), e)
	}
	wantIs(t, shuts, less, true, false)
}

// P12.1: types that go round in numbers of nodes of which neither divides the other; what is alike isn't held against what is alike again and again.
func TestOfRounds(t *testing.T) {
	for _, each := range []func(next int) api.Node{arrowTo, shutTo} {
		wantIs(t, chain(200000, each, each(0)), chain(199999, each, each(0)), true, true)
	}
	wantIs(t, chain(50000, bothTo, bothTo(0)), chain(49999, shutTo, shutTo(0)), true, false)
	one := chain(50000, shutTo, shutTo(0))
	one.N[1] = bothTo(2)
	wantIs(t, one, chain(49999, shutTo, shutTo(0)), true, false)
	one.N[1] = integer
	wantIs(t, one, chain(49999, shutTo, shutTo(0)), false, false)
	r := maker{rand.New(rand.NewSource(5))}
	for _, n := range []api.Node{bothTo(0), arrowTo(0)} {
		wantIs(t, r.graph(100000, []api.Node{n}), r.graph(100000, []api.Node{n}), true, true)
	}
	// What is told apart is held against what is told apart, and no two times.
	one, two := chain(400, shutTo, shutTo(0)), chain(399, shutTo, shutTo(0))
	one.N[7] = bothTo(8)
	wantIs(t, one, two, true, false)
	two.N[7] = bothTo(8)
	wantIs(t, one, two, false, false)
}

// fan is a graph whose Root leads to so many nodes, by pairs, one behind the other.
func fan(size int, each func(i int) int, rest ...api.Node) api.Graph {
	g := api.Graph{N: slices.Clone(rest), Root: len(rest)}
	for i := range size {
		g.N = append(g.N, times(each(i), len(g.N)+1))
	}
	g.N = append(g.N, integer)
	return g
}

// P12.1: an object of many labels that stands for many of few labels; it may not be gone through label by label for each of them.
func TestOfManyLabels(t *testing.T) {
	const many = 50000
	var labels []string
	few := []api.Node{unit}
	for i := range many {
		labels = append(labels, "m"+strconv.Itoa(many+i))
		few = append(few, shut(labels[i], 0))
	}
	wide := api.Node{Kind: api.NObj, Labels: labels, Args: make([]int, many)}
	h := fan(many, func(i int) int { return i + 1 }, few...)
	wantIs(t, fan(many, func(int) int { return 1 }, unit, wide), h, true, false)
	wantIs(t, fan(many, func(int) int { return 1 }, boolean, wide), h, false, false)
	wide.Labels = labels[:many-1]
	wide.Args = wide.Args[1:]
	wantIs(t, fan(many, func(int) int { return 1 }, unit, wide), h, false, false)
}

// spared is a graph whose lists have spare room.
func spared(g api.Graph) api.Graph {
	h := api.Graph{N: append(make([]api.Node, 0, len(g.N)+2), g.N...), Root: g.Root}
	for i, n := range g.N {
		h.N[i].Args = append(append(make([]int, 0, 8), n.Args...), 77, 78)[:len(n.Args)]
		h.N[i].Labels = append(append(make([]string, 0, 8), n.Labels...), "spare", "room")[:len(n.Labels)]
	}
	return h
}

// whole is a graph with the spare room of its lists.
func whole(g api.Graph) api.Graph {
	h := api.Graph{N: slices.Clone(g.N[:cap(g.N)]), Root: g.Root}
	for i, n := range h.N {
		h.N[i].Args = slices.Clone(n.Args[:cap(n.Args)])
		h.N[i].Labels = slices.Clone(n.Labels[:cap(n.Labels)])
	}
	return h
}

func fill[T any](list []T, with T) {
	for i := range list {
		list[i] = with
	}
}

// wantOwn holds an answer to memory of its own: what one list of it has room for is written over, and no other one is changed.
func wantOwn(t *testing.T, g, want api.Graph) {
	t.Helper()
	for i := range g.N {
		args, labels := g.N[i].Args, g.N[i].Labels
		fill(args[len(args):cap(args)], -5)
		fill(labels[len(labels):cap(labels)], "?")
	}
	if !sameNodes(g, want) {
		t.Errorf("%v, and not %v: a list's spare room is another one's", g, want)
	}
	for i := range g.N {
		fill(g.N[i].Args, -5)
		fill(g.N[i].Labels, "?")
		if rest := g.N[i+1:]; !sameNodes(nodes(rest...), nodes(want.N[i+1:]...)) {
			t.Errorf("node %d of %v shares memory with one behind it", i, want)
		}
	}
	fill(g.N[:cap(g.N)], api.Node{Kind: -5})
}

// What is handed in is left as it is; what is answered is new memory, and no two lists of it share any.
func TestMemory(t *testing.T) {
	r := maker{rand.New(rand.NewSource(4))}
	many := kinds()
	for i := range 3000 {
		g := r.graph(1+r.Intn(7), many[i%len(many)])
		h := r.raised(g, 1+r.Intn(20))
		g, h = spared(g), spared(h)
		was, raised := whole(g), whole(h)
		back := plainIs(h, g)
		for range 2 {
			wantIs(t, g, h, true, back)
			for _, label := range g.N[g.Root].Labels {
				less, _ := sub.Forget(g, label)
				wantOwn(t, less, plainForget(g, label))
			}
		}
		if !reflect.DeepEqual(whole(g), was) || !reflect.DeepEqual(whole(h), raised) {
			t.Fatalf("%v, %v are changed to %v, %v", was, raised, whole(g), whole(h))
		}
	}
}
