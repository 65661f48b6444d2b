package solve_test

import (
	"fmt"
	"math"
	"slices"
	"strconv"
	"strings"
	"testing"

	"trefoil/api"
	"trefoil/graph"
	"trefoil/load"
	"trefoil/solve"
)

var (
	v                = api.Node{Kind: api.NVar}
	integer, boolean = con("int"), con("bool")
)

func con(name string, args ...int) api.Node {
	return api.Node{Kind: api.NCon, Name: name, Args: args}
}
func arrow(a, b int) api.Node { return con("->", a, b) }
func times(a, b int) api.Node { return con("*", a, b) }
func shut(labels string, args ...int) api.Node {
	return api.Node{Kind: api.NObj, Labels: strings.Fields(labels), Args: args}
}
func open(labels string, args ...int) api.Node {
	n := shut(labels, args...)
	n.Open = true
	return n
}
func rooted(root int, nodes ...api.Node) api.Graph { return api.Graph{N: nodes, Root: root} }
func nodes(list ...api.Node) api.Graph             { return rooted(0, list...) }
func repeated(size int, n api.Node) api.Graph {
	return api.Graph{N: slices.Repeat([]api.Node{n}, size)}
}

// sameNodes says whether two graphs are told alike, node by node (nil and empty are one).
func sameNodes(g, h api.Graph) bool {
	return g.Root == h.Root && slices.EqualFunc(g.N, h.N, func(x, y api.Node) bool {
		return x.Kind == y.Kind && x.Name == y.Name && x.Open == y.Open && slices.Equal(x.Args, y.Args) && slices.Equal(x.Labels, y.Labels)
	})
}

// A list is pairs of nodes.
type list = [][2]int

// turned are pairs in other orders, and the other way round.
func turned(pairs list) []list {
	back := slices.Clone(pairs)
	slices.Reverse(back)
	var round list
	for _, p := range pairs {
		round = append(round, [2]int{p[1], p[0]})
	}
	return []list{pairs, back, round, append(slices.Clone(back), round...), append(list{{0, 0}}, pairs...)}
}

// wantOne holds pairs that can be made one, in whatever order, to a graph and to the nodes' classes.
func wantOne(t *testing.T, g api.Graph, pairs list, want api.Graph, least []int) {
	t.Helper()
	for _, pairs := range turned(pairs) {
		if got, of, e := solve.Unify(g, pairs); e != api.OK || !sameNodes(got, want) || !slices.Equal(of, least) {
			t.Errorf("Unify(%v, %v) = %v, %v, %d, want %v, %v", g, pairs, got, of, e, want, least)
		}
		if again, _, e := solve.Unify(want, pairs); e != api.OK || !sameNodes(again, want) {
			t.Errorf("Unify(%v, %v) = %v, %d, and not what it was", want, pairs, again, e)
		}
	}
}

// brief is the beginning of what a thing is told as.
func brief(x any) string {
	text := fmt.Sprint(x)
	return text[:min(len(text), 300)]
}

// wantNone holds pairs to an error.
func wantNone(t *testing.T, g api.Graph, pairs list, want api.Errno) {
	t.Helper()
	if got, of, e := solve.Unify(g, pairs); e != want || len(got.N) != 0 || got.Root != 0 || len(of) != 0 {
		t.Errorf("Unify(%s, %s) = %s, %s, %d, want %d", brief(g), brief(pairs), brief(got), brief(of), e, want)
	}
}

// P8.1
func TestUnify(t *testing.T) {
	for _, x := range []struct {
		g     api.Graph
		pairs list
		want  api.Graph
		least []int
	}{
		// Without pairs, and with a node that is itself: what it was.
		{nodes(v), nil, nodes(v), []int{0}},
		{rooted(1, open("m n", 2, 1), arrow(0, 1), integer), list{}, rooted(1, open("m n", 2, 1), arrow(0, 1), integer), []int{0, 1, 2}},
		{rooted(1, v, shut("m", 0)), list{{1, 1}}, rooted(1, v, shut("m", 0)), []int{0, 1}},
		// A class's node is that of the least number, whatever the one is of which its own comes.
		{rooted(1, v, v), list{{1, 0}}, rooted(0, v, v), []int{0, 0}},
		{rooted(2, v, integer, times(0, 1)), list{{0, 1}}, rooted(2, integer, integer, times(0, 0)), []int{0, 0, 2}},
		{rooted(2, v, v, open("m", 0)), list{{2, 1}}, rooted(1, v, open("m", 0), open("m", 0)), []int{0, 1, 1}},
		{rooted(3, v, v, v, v), list{{3, 1}, {1, 2}}, rooted(1, v, v, v, v), []int{0, 1, 1, 1}},
		{nodes(times(4, 3), v, v, v, v), list{{1, 2}, {3, 4}, {2, 4}}, nodes(times(1, 1), v, v, v, v), []int{0, 1, 1, 1, 1}},
		// Of constructors the Args.
		{nodes(integer, integer), list{{0, 1}}, nodes(integer, integer), []int{0, 0}},
		{nodes(arrow(2, 3), arrow(3, 4), v, v, con("unit")), list{{0, 1}}, nodes(arrow(2, 2), arrow(2, 2), con("unit"), con("unit"), con("unit")), []int{0, 0, 2, 2, 2}},
		{nodes(v, times(5, 4), times(3, 2), v, v, integer), list{{0, 2}, {1, 0}}, nodes(times(3, 0), times(3, 0), times(3, 0), integer, times(3, 0), integer), []int{0, 0, 0, 3, 0, 3}},
		// Of objects those of the labels that both have; the other ones are there, too, in order.
		{nodes(open("b", 2), open("a", 3), v, integer), list{{0, 1}}, nodes(open("a b", 3, 2), open("a b", 3, 2), v, integer), []int{0, 0, 2, 3}},
		{nodes(open("b c", 2, 3), open("a c d", 4, 5, 2), v, v, v, boolean), list{{1, 0}}, nodes(open("a b c d", 4, 2, 3, 2), open("a b c d", 4, 2, 3, 2), v, boolean, v, boolean), []int{0, 0, 2, 3, 4, 3}},
		{nodes(open("m", 2), shut("m", 3), v, integer), list{{0, 1}}, nodes(shut("m", 2), shut("m", 2), integer, integer), []int{0, 0, 2, 2}},
		{nodes(open("b", 2), shut("a b c", 0, 2, 1), v), list{{0, 1}}, nodes(shut("a b c", 0, 2, 0), shut("a b c", 0, 2, 0), v), []int{0, 0, 2}},
		{nodes(shut("a b", 2, 3), shut("a b", 3, 2), v, v), list{{0, 1}}, nodes(shut("a b", 2, 2), shut("a b", 2, 2), v, v), []int{0, 0, 2, 2}},
		{nodes(open(""), open(""), shut("")), list{{0, 1}}, nodes(open(""), open(""), shut("")), []int{0, 0, 2}},
		{nodes(open(""), open(""), shut("")), list{{0, 1}, {1, 2}}, nodes(shut(""), shut(""), shut("")), []int{0, 0, 0}},
		{nodes(open("m", 3), open("n", 3), shut("m n", 3, 3), v), list{{0, 1}, {1, 2}}, nodes(shut("m n", 3, 3), shut("m n", 3, 3), shut("m n", 3, 3), v), []int{0, 0, 0, 3}},
		// What goes round.
		{nodes(arrow(1, 0), v), list{{0, 1}}, nodes(arrow(0, 0), arrow(0, 0)), []int{0, 0}},
		{nodes(shut("m", 1), shut("m", 0)), list{{0, 1}}, nodes(shut("m", 0), shut("m", 0)), []int{0, 0}},
		{nodes(arrow(1, 2), v, v, times(4, 0), v), list{{1, 3}}, nodes(arrow(1, 2), times(4, 0), v, times(4, 0), v), []int{0, 1, 2, 1, 4}},
		{nodes(shut("m", 1), shut("m", 2), shut("m", 0), shut("m", 4), shut("m", 3)), list{{1, 3}}, nodes(slices.Repeat([]api.Node{shut("m", 0)}, 5)...), []int{0, 0, 0, 0, 0}},
		{nodes(open("m", 1), open("n", 0)), list{{0, 1}}, nodes(open("m n", 0, 0), open("m n", 0, 0)), []int{0, 0}},
		// What Root doesn't reach.
		{nodes(integer, v, boolean), list{{1, 2}}, nodes(integer, boolean, boolean), []int{0, 1, 1}},
	} {
		wantOne(t, x.g, x.pairs, x.want, x.least)
	}
}

// P8.1: what can't be one, wherever it comes from.
func TestUnifyNone(t *testing.T) {
	for _, x := range []struct {
		g     api.Graph
		pairs list
	}{
		{nodes(integer, boolean), list{{0, 1}}},
		{nodes(con("unit"), con("string")), list{{0, 1}}},
		{nodes(integer, arrow(0, 0)), list{{0, 1}}},
		{nodes(arrow(2, 2), times(2, 2), v), list{{0, 1}}},
		{nodes(integer, open("")), list{{0, 1}}},
		{nodes(arrow(0, 0), shut("m", 0)), list{{0, 1}}},
		// By way of a variable, or of another object.
		{nodes(v, integer, boolean), list{{0, 1}, {2, 0}}},
		{nodes(v, v, integer, shut("")), list{{2, 0}, {3, 1}, {0, 1}}},
		{nodes(open("m", 3), open("n", 3), shut("m", 3), v), list{{0, 1}, {1, 2}}},
		{nodes(open("m", 3), open("m", 4), open("n", 3), integer, boolean), list{{0, 2}, {1, 2}}},
		// A label that an object hasn't, and may not have.
		{nodes(shut(""), open("m", 0)), list{{0, 1}}},
		{nodes(shut("m", 2), shut("n", 2), v), list{{0, 1}}},
		{nodes(shut("m", 2), shut("m n", 2, 2), v), list{{0, 1}}},
		{nodes(shut("m n", 2, 2), open("n o", 2, 2), v), list{{0, 1}}},
		{nodes(shut("b", 2), open("a b", 2, 2), v), list{{0, 1}}},
		// By way of Args.
		{nodes(arrow(2, 3), arrow(4, 5), integer, v, v, v, boolean), list{{3, 6}, {2, 5}, {0, 1}}},
		{nodes(times(2, 2), times(3, 4), v, integer, boolean), list{{0, 1}}},
		{nodes(arrow(1, 0), integer), list{{0, 1}}},
		{nodes(shut("m", 1), shut("m", 2), shut("n", 0)), list{{0, 1}}},
		{nodes(shut("m", 1), shut("m", 0), shut("m", 3), integer), list{{0, 2}}},
		// What Root doesn't reach.
		{nodes(v, integer, boolean), list{{1, 2}}},
	} {
		for _, pairs := range turned(x.pairs) {
			wantNone(t, x.g, pairs, api.ErrType)
		}
	}
}

// badGraphs are graphs that may not be, of three nodes or fewer.
func badGraphs() []api.Graph {
	list := []api.Graph{{}, {Root: -1}, nodes(con("x"), v, v), nodes(v, api.Node{}, v), nodes(v, v, api.Node{Kind: 4}), nodes(v, v, con("int", 0)), nodes(arrow(0, 3), v, v), nodes(v, times(-1, 0), v), nodes(v, shut("n m", 0, 0), v), nodes(v, v, open("let", 0))}
	for _, root := range []int{-1, 3, math.MinInt, math.MaxInt} {
		list = append(list, rooted(root, v, integer, boolean))
	}
	return list
}

// badPairs each tell something that is no node of three.
func badPairs() []list {
	var all []list
	for _, at := range []int{-1, 3, 4, api.MaxNodes, math.MinInt, math.MaxInt} {
		all = append(all, list{{0, at}}, list{{at, 2}}, list{{at, at}}, list{{0, 1}, {1, 2}, {at, 0}}, list{{0, at}, {0, 1}, {1, 2}})
	}
	return all
}

// P8.1: layer 6's errors, ahead of pairs that may not be; these ahead of what can't be one.
func TestUnifyErrors(t *testing.T) {
	for _, g := range badGraphs() {
		for _, pairs := range append(badPairs(), nil, list{{0, 0}}, list{{1, 2}}) {
			wantNone(t, g, pairs, api.ErrArg)
		}
	}
	for _, pairs := range badPairs() {
		wantNone(t, nodes(v, v, v), pairs, api.ErrArg)
		wantNone(t, nodes(integer, boolean, shut("")), pairs, api.ErrArg)
	}
	wantNone(t, nodes(v), list{{0, 1}}, api.ErrArg)
	tooLong := repeated(api.MaxNodes+1, v)
	wantNone(t, tooLong, nil, api.ErrLong)
	wantNone(t, tooLong, list{{0, -1}}, api.ErrLong)
	tooLong.Root, tooLong.N[3] = -1, con("x")
	wantNone(t, tooLong, list{{0, 1}}, api.ErrLong)
}

// read is the type that a text is.
func read(t *testing.T, text string) api.Graph {
	t.Helper()
	g, e := load.Read(text)
	if e != api.OK {
		t.Fatalf("Read(%q): %d", text, e)
	}
	return g
}

// P8.2: what is told has a node for each class (an as tells which parts are one node).
func TestMeet(t *testing.T) {
	for _, x := range []struct{ g, h, want string }{
		{"int -> 'a", "'b -> 'b", "(int as 'i) -> 'i"},
		{"'a", "'b", "'b"}, {"'a", "int", "int"}, {"int", "'a", "int"}, {"'a", "< m : 'a ; .. >", "< m : 'b ; .. >"}, {"unit", "unit", "unit"},
		{"'a -> 'b", "'a -> 'a", "'a -> 'a"}, {"'a * 'b", "'b * 'a", "'a * 'b"}, {"'a * 'b * 'a", "'c * 'c * 'd", "'a * 'a * 'a"},
		{"'a * 'a", "(int -> 'b) * ('c -> bool)", "((int -> bool) as 'x) * 'x"},
		{"< m : int ; .. >", "< n : bool ; .. >", "< m : int ; n : bool ; .. >"}, {"< b : int ; .. >", "< a : 'a ; c : 'a >", ""}, {"< b : 'b ; .. >", "< a : 'a ; b : int ; c : 'a >", "< a : 'a ; b : int ; c : 'a >"},
		{"< .. >", "< >", "< >"}, {"< .. >", "< .. >", "< .. >"}, {"< >", "< >", "< >"}, {"< m : 'a ; n : 'a >", "< m : int ; .. >", "< m : (int as 'i) ; n : 'i >"},
		{"(< m : int ; .. > as 'a) -> 'a", "< n : 'b ; .. > -> 'b", "(< m : int ; n : 'a ; .. > as 'a) -> 'a"}, {"(< m : int ; .. > as 'a) -> 'a", "< n : 'b ; .. > -> < n : 'c ; m : 'c >", "(< m : (int as 'i) ; n : 'i > as 'a) -> 'a"},
		// What goes round: each of them, and both.
		{"'a -> 'b as 'a", "'a", "'a -> 'b as 'a"}, {"'a -> 'b", "'a -> 'b as 'a", "'a -> 'b as 'a"}, {"'a -> 'b as 'a", "'a -> 'b as 'b", "'a -> 'a as 'a"}, {"'a -> 'a", "'b -> int -> 'b", "(int -> 'a as 'a) -> 'a"},
		{"< m : 'a > as 'a", "< m : < m : 'a > > as 'a", "< m : 'a > as 'a"}, {"< m : 'a ; .. > as 'a", "< n : 'a ; .. > as 'a", "< m : 'a ; n : 'a ; .. > as 'a"}, {"< m : 'a ; .. > as 'a", "< n : 'b ; m : 'b > as 'b", "< m : 'a ; n : 'a > as 'a"},
		{"< me : 'a ; x : int ; .. > as 'a", "< me : < y : bool ; .. > ; .. >", "< me : 'a ; x : int ; y : bool ; .. > as 'a"},
		{"int -> 'a as 'a", "'b -> 'b -> 'c", "(int as 'i) -> 'a as 'a"}, {"'a * 'a", "(int -> 'a as 'a) * (int -> int -> 'b as 'b)", "((int as 'i) -> 'a as 'a) * 'a"},
		// None.
		{"int", "bool", ""}, {"int", "< .. >", ""}, {"'a -> 'a", "'a * 'a", ""}, {"'a -> 'a", "int -> bool", ""}, {"unit * int", "unit * string", ""}, {"< m : int >", "< >", ""}, {"< m : int >", "< n : int >", ""}, {"< m : int >", "< m : bool >", ""},
		{"< m : int ; .. >", "< n : int >", ""}, {"< m : int ; .. >", "< m : bool ; .. >", ""}, {"< m : 'a > as 'a", "< m : < m : int > >", ""}, {"int -> 'a as 'a", "int -> int", ""}, {"'a -> 'b as 'a", "int -> int", ""}, {"'a * 'a", "< > * < m : int ; .. >", ""},
	} {
		g, h := read(t, x.g), read(t, x.h)
		for range 2 {
			got, e := solve.Meet(g, h)
			if x.want == "" {
				wantNoMeet(t, g, h, api.ErrType)
			} else if want := read(t, x.want); e != api.OK || !sameNodes(got, want) {
				t.Errorf("Meet(%s, %s) = %v, %d, want %s: %v", x.g, x.h, got, e, x.want, want)
			}
			g, h = h, g
		}
	}
}

func wantNoMeet(t *testing.T, g, h api.Graph, want api.Errno) {
	t.Helper()
	if got, e := solve.Meet(g, h); e != want || len(got.N) != 0 || got.Root != 0 {
		t.Errorf("Meet(%s, %s) = %s, %d, want %d", brief(g), brief(h), brief(got), e, want)
	}
}

// P8.2: the nodes that Root reaches, by new numbers, of graphs of others, too.
func TestMeetTrims(t *testing.T) {
	g := rooted(2, boolean, v, arrow(3, 1), integer)
	h := rooted(1, shut(""), arrow(4, 4), arrow(1, 1), integer, v)
	if got, e := solve.Meet(g, h); e != api.OK || !sameNodes(got, nodes(arrow(1, 1), integer)) {
		t.Errorf("%v, %d", got, e)
	}
	// What isn't reached stands as it stood: nothing of it is made one.
	g, h = rooted(1, integer, v), rooted(1, boolean, shut("m", 1))
	if got, e := solve.Meet(g, h); e != api.OK || !sameNodes(got, nodes(shut("m", 0))) {
		t.Errorf("%v, %d", got, e)
	}
	if got, e := solve.Meet(nodes(shut("a b", 1, 2), v, v), nodes(shut("a b", 2, 1), open("x", 0), shut("x", 0))); e != api.OK || !sameNodes(got, nodes(shut("a b", 1, 2), shut("x", 0), open("x", 0))) {
		t.Errorf("%v, %d", got, e)
	}
}

// P8.2: of g layer 6's errors, then of h; both together, then what can't be one.
func TestMeetErrors(t *testing.T) {
	long := repeated(api.MaxNodes+1, v)
	for _, bad := range badGraphs() {
		for _, g := range []api.Graph{nodes(v), nodes(integer), bad} {
			wantNoMeet(t, bad, g, api.ErrArg)
			wantNoMeet(t, g, bad, api.ErrArg)
		}
	}
	bad := badGraphs()[3]
	wantNoMeet(t, bad, long, api.ErrArg)
	wantNoMeet(t, long, bad, api.ErrLong)
	wantNoMeet(t, nodes(v), long, api.ErrLong)
	wantNoMeet(t, long, nodes(v), api.ErrLong)
	most := repeated(api.MaxNodes, v)
	wantNoMeet(t, most, bad, api.ErrArg)
	wantNoMeet(t, bad, most, api.ErrArg)
	wantNoMeet(t, most, nodes(v), api.ErrLong)
	wantNoMeet(t, nodes(v), most, api.ErrLong)
	wantNoMeet(t, most, most, api.ErrLong)
	most.N[0] = integer
	wantNoMeet(t, most, nodes(boolean), api.ErrLong)
	most.N = most.N[:api.MaxNodes-1]
	wantNoMeet(t, most, nodes(boolean), api.ErrType)
	if got, e := solve.Meet(most, nodes(v)); e != api.OK || !sameNodes(got, nodes(integer)) {
		t.Errorf("%v, %d", got, e)
	}
	if got, e := solve.Meet(nodes(v), most); e != api.OK || !sameNodes(got, nodes(integer)) {
		t.Errorf("%v, %d", got, e)
	}
}

// P8.3: a type met with itself is itself, unless there are too many nodes.
func TestMeetItself(t *testing.T) {
	for _, text := range []string{"'a", "int", "'a -> 'b -> 'a", "< >", "< .. >", "< m : 'a ; n : < .. > ; .. > as 'a", "(< m : int ; .. > as 'a) -> 'a", "int -> int -> 'a as 'a"} {
		g := read(t, text)
		if got, e := solve.Meet(g, g); e != api.OK || !sameNodes(got, g) {
			t.Errorf("%s: %v, %d", text, got, e)
		}
	}
	half := chain(api.MaxNodes/2, shut("m", 0))
	if got, e := solve.Meet(half, half); e != api.OK || !sameNodes(got, half) {
		t.Errorf("%d nodes, %d", len(got.N), e)
	}
	more := chain(api.MaxNodes/2+1, v)
	wantNoMeet(t, more, more, api.ErrLong)
}

// chain is a graph of so many nodes, each of which leads to the next, but for the last one.
func chain(size int, last api.Node) api.Graph {
	var g api.Graph
	for i := range size - 1 {
		g.N = append(g.N, shut("m", i+1))
	}
	g.N = append(g.N, last)
	return g
}

func label(i int) string { return "x" + strconv.Itoa(1<<30+i) }

// wide is an object that has labels of so many numbers, and one Arg.
func wide(size, first, arg int) api.Node {
	n := api.Node{Kind: api.NObj, Open: true}
	for i := range size {
		n.Labels, n.Args = append(n.Labels, label(first+i)), append(n.Args, arg)
	}
	return n
}

// P8.1: as many nodes as there may be, one within the other, and all of them one.
func TestUnifyMany(t *testing.T) {
	const most = api.MaxNodes
	// One pair leads to all: each node is the next one.
	for _, last := range []api.Node{v, shut("m", 0), open(""), open("m", most/2)} {
		got, least, e := solve.Unify(chain(most, last), list{{0, 1}})
		if e != api.OK || slices.Max(least) != 0 || !sameNodes(got, repeated(most, shut("m", 0))) {
			t.Errorf("%v: %d", last, e)
		}
	}
	wantNone(t, chain(most, integer), list{{0, 1}}, api.ErrType)
	wantNone(t, chain(most, shut("n", 0)), list{{0, 1}}, api.ErrType)
	// Pairs in an order in which ways to a class could grow long.
	g := repeated(most, v)
	for _, pair := range []func(i int) [2]int{
		func(i int) [2]int { return [2]int{i, i + 1} },
		func(i int) [2]int { return [2]int{most - 1 - i, most - 2 - i} },
		func(i int) [2]int { return [2]int{0, i + 1} },
		func(i int) [2]int { return [2]int{i + 1, (i + 1) & i} },
	} {
		var pairs list
		for i := range most - 1 {
			pairs = append(pairs, pair(i))
		}
		if got, least, e := solve.Unify(g, pairs); e != api.OK || slices.Max(least) != 0 || !sameNodes(got, g) {
			t.Errorf("%d", e)
		}
	}
	// Rings of m and of n nodes: all are one, if nothing else divides m and n.
	const many = 1 << 18
	rings := chain(2*many-1, shut("m", many))
	rings.N[many-1].Args[0] = 0
	if got, least, e := solve.Unify(rings, list{{0, many}}); e != api.OK || slices.Max(least) != 0 || !sameNodes(graph.Trim(got), nodes(shut("m", 0))) {
		t.Errorf("rings: %d", e)
	}
}

// P8.1: very many labels: of objects that have one each, of those that have very many already.
func TestUnifyManyLabels(t *testing.T) {
	const size = 3000
	g := nodes(v)
	var pairs list
	for i := range size {
		g.N = append(g.N, wide(1, size-i, 0))
		pairs = append(pairs, [2]int{1, 1 + i})
	}
	want := wide(size, 1, 0)
	got, least, e := solve.Unify(g, pairs)
	if e != api.OK || len(got.N) != size+1 || least[0] != 0 || slices.Min(least[1:]) != 1 || slices.Max(least[1:]) != 1 {
		t.Fatalf("%d", e)
	}
	for _, n := range got.N[1:] {
		if !sameNodes(nodes(n), nodes(want)) {
			t.Fatal(brief(n))
		}
	}
	// One that isn't open among them, that has them all, or all but one.
	g.N = append(g.N, want, wide(size-1, 1, 0), wide(size+1, 0, 0))
	for i := size + 1; i < len(g.N); i++ {
		g.N[i].Open = false
		with := append(slices.Clone(pairs), [2]int{i, 1})
		if got, least, e := solve.Unify(g, with); i == size+1 && (e != api.OK || least[i] != 1 || got.N[1].Open) {
			t.Errorf("%d", e)
		} else if i == size+2 && e != api.ErrType || i == size+3 && e != api.OK {
			t.Errorf("%d: %d", i, e)
		}
	}
}

// rows are as many objects as told, of one label each, told one behind the other by pairs; all of them meet one that goes round: 'a where 'a is 'b * 'a.
func rows(size int) (api.Graph, api.Graph) {
	var g api.Graph
	for i := range size {
		g.N = append(g.N, times(size+i, i+1))
	}
	for i := range size {
		g.N = append(g.N, wide(1, i, i))
	}
	g.N[size-1].Args[1] = size - 1
	return g, nodes(times(1, 0), v)
}

// P8.2: what is told of objects that are made one is one object, however many they were.
func TestMeetManyObjects(t *testing.T) {
	const size = 300000
	g, h := rows(size)
	want := nodes(times(1, 0), wide(size, 0, 0))
	for range 2 {
		if got, e := solve.Meet(g, h); e != api.OK || !sameNodes(got, want) {
			t.Errorf("%d nodes, %d", len(got.N), e)
		}
		g, h = h, g
	}
}

// P1: nothing is promised of an answer of so many labels, but that the call ends.
func TestUnifyTooGreat(t *testing.T) {
	const size = 40000
	g := repeated(size, v)
	var pairs list
	for i := range size {
		g.N[i] = wide(1, i, 0)
		pairs = append(pairs, [2]int{0, i})
	}
	wantNone(t, g, pairs, api.ErrLong)
}
