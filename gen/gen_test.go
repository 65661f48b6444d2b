package gen_test

import (
	"fmt"
	"math"
	"slices"
	"strings"
	"testing"

	"trefoil/api"
	"trefoil/gen"
	"trefoil/graph"
	"trefoil/load"
	"trefoil/name"
)

var (
	longest = strings.Repeat("a", api.MaxName)
	v       = api.Node{Kind: api.NVar}
	integer = con("int")
)

func con(name string, args ...int) api.Node {
	return api.Node{Kind: api.NCon, Name: name, Args: args}
}
func arrow(a, b int) api.Node { return con("->", a, b) }
func times(a, b int) api.Node { return con("*", a, b) }
func shut(labels string, args ...int) api.Node {
	return api.Node{Kind: api.NObj, Labels: strings.Fields(labels), Args: args}
}
func open(labels string, args ...int) api.Node {
	n := shut(labels, args...)
	n.Open = true
	return n
}
func rooted(root int, nodes ...api.Node) api.Graph { return api.Graph{N: nodes, Root: root} }
func nodes(list ...api.Node) api.Graph             { return rooted(0, list...) }
func repeated(size int, n api.Node) api.Graph {
	return api.Graph{N: slices.Repeat([]api.Node{n}, size)}
}

// sameNodes says whether two graphs are told alike, node by node (nil and empty are one).
func sameNodes(g, h api.Graph) bool {
	return g.Root == h.Root && slices.EqualFunc(g.N, h.N, func(x, y api.Node) bool {
		return x.Kind == y.Kind && x.Name == y.Name && x.Open == y.Open && slices.Equal(x.Args, y.Args) && slices.Equal(x.Labels, y.Labels)
	})
}

// brief is the beginning of what a thing is told as.
func brief(x any) string {
	text := fmt.Sprint(x)
	return text[:min(len(text), 300)]
}

// read is a type's graph.
func read(t *testing.T, text string) api.Graph {
	t.Helper()
	g, e := load.Read(text)
	if e != api.OK {
		t.Fatalf("Read(%s): %d", text, e)
	}
	return g
}

// wantFree holds a graph and monos of it to their fixed and their generic nodes.
func wantFree(t *testing.T, g api.Graph, mono, fixed, generic []int) {
	t.Helper()
	if got, e := gen.Fixed(g, mono); e != api.OK || !slices.Equal(got, fixed) {
		t.Errorf("Fixed(%s, %s) = %s, %d, want %s", brief(g), brief(mono), brief(got), e, brief(fixed))
	}
	if got, e := gen.Generic(g, mono); e != api.OK || !slices.Equal(got, generic) {
		t.Errorf("Generic(%s, %s) = %s, %d, want %s", brief(g), brief(mono), brief(got), e, brief(generic))
	}
}

// wantFresh holds a graph and monos of it to its nodes with some more, and a Root.
func wantFresh(t *testing.T, g api.Graph, mono []int, root int, more ...api.Node) {
	t.Helper()
	want := rooted(root, slices.Concat(g.N, more)...)
	if got, e := gen.Fresh(g, mono); e != api.OK || !sameNodes(got, want) {
		t.Errorf("Fresh(%s, %s) = %s, %d, want %s", brief(g), brief(mono), brief(got), e, brief(want))
	}
}

// wantErrors holds the three calls to errors.
func wantErrors(t *testing.T, g api.Graph, mono []int, each, fresh api.Errno) {
	t.Helper()
	if got, e := gen.Fixed(g, mono); e != each || e != api.OK && len(got) != 0 {
		t.Errorf("Fixed(%s, %s) = %s, %d, want %d", brief(g), brief(mono), brief(got), e, each)
	}
	if got, e := gen.Generic(g, mono); e != each || e != api.OK && len(got) != 0 {
		t.Errorf("Generic(%s, %s) = %s, %d, want %d", brief(g), brief(mono), brief(got), e, each)
	}
	if got, e := gen.Fresh(g, mono); e != fresh || e != api.OK && (len(got.N) != 0 || got.Root != 0) {
		t.Errorf("Fresh(%s, %s) = %s, %d, want %d", brief(g), brief(mono), brief(got), e, fresh)
	}
}

// P13.1, P13.2: a graph, monos of it; the nodes that are fixed, and generic; the Root of the fresh copy, and what it has behind the graph's own nodes.
var copies = []struct {
	g              api.Graph
	mono           []int
	fixed, generic []int
	root           int
	more           []api.Node
}{
	// The chapter's example: 'a -> 'b, of which 'b is mono: 'c -> 'b.
	{nodes(arrow(1, 2), v, v), []int{2}, []int{2}, []int{1}, 3, []api.Node{arrow(4, 2), v}},
	{nodes(arrow(1, 2), v, v), []int{1}, []int{1}, []int{2}, 3, []api.Node{arrow(1, 4), v}},
	{nodes(arrow(1, 2), v, v), nil, nil, []int{1, 2}, 3, []api.Node{arrow(4, 5), v, v}},
	{nodes(arrow(1, 2), v, v), []int{2, 1}, []int{1, 2}, nil, 0, nil},
	{nodes(arrow(1, 2), v, v), []int{1, 1, 1}, []int{1}, []int{2}, 3, []api.Node{arrow(1, 4), v}},
	{nodes(arrow(1, 2), v, v), []int{0}, []int{1, 2}, nil, 0, nil},
	{nodes(arrow(1, 1), v), nil, nil, []int{1}, 2, []api.Node{arrow(3, 3), v}},
	// Of one node.
	{nodes(v), nil, nil, []int{0}, 1, []api.Node{v}}, {nodes(v), []int{0}, []int{0}, nil, 0, nil},
	{nodes(open("")), nil, nil, []int{0}, 1, []api.Node{open("")}}, {nodes(open("")), []int{0, 0}, []int{0}, nil, 0, nil},
	{nodes(open("m", 0)), nil, nil, []int{0}, 1, []api.Node{open("m", 1)}}, {nodes(open("m", 0)), []int{0}, []int{0}, nil, 0, nil},
	// Without free nodes nothing is generic, and nothing is copied.
	{nodes(integer), nil, nil, nil, 0, nil}, {nodes(integer), []int{0}, nil, nil, 0, nil}, {nodes(shut("m", 0)), nil, nil, nil, 0, nil}, {nodes(shut("")), nil, nil, nil, 0, nil}, {nodes(arrow(0, 0)), nil, nil, nil, 0, nil}, {rooted(2, integer, con("bool"), times(0, 1)), []int{1}, nil, nil, 2, nil},
	// An open object is free, and what it leads to may be.
	{nodes(open("m n", 1, 2), v, integer), nil, nil, []int{0, 1}, 3, []api.Node{open("m n", 4, 2), v}}, {nodes(open("m n", 1, 2), v, integer), []int{1}, []int{1}, []int{0}, 3, []api.Node{open("m n", 1, 2)}}, {nodes(open("m n", 1, 2), v, integer), []int{0}, []int{0, 1}, nil, 0, nil}, {nodes(open("m n", 1, 2), v, integer), []int{2}, nil, []int{0, 1}, 3, []api.Node{open("m n", 4, 2), v}},
	{nodes(shut("m", 1), open("n", 2), integer), nil, nil, []int{1}, 3, []api.Node{shut("m", 4), open("n", 2)}}, {nodes(shut("m", 1), open("n", 2), integer), []int{2}, nil, []int{1}, 3, []api.Node{shut("m", 4), open("n", 2)}},
	// What a mono leads to is fixed, far down and around; what leads to a mono isn't.
	{nodes(times(1, 2), arrow(3, 4), shut("m", 1), v, open("")), []int{2}, []int{3, 4}, nil, 0, nil}, {nodes(times(1, 2), arrow(3, 4), v, v, open("")), []int{1}, []int{3, 4}, []int{2}, 5, []api.Node{times(1, 6), v}},
	{nodes(open("m", 1), open("m", 2), open("m", 0)), []int{1}, []int{0, 1, 2}, nil, 0, nil}, {nodes(open("m", 1), open("m", 2), open("m", 2)), []int{1}, []int{1, 2}, []int{0}, 3, []api.Node{open("m", 1)}}, {nodes(open("m", 1), open("m", 2), open("m", 2)), []int{2}, []int{2}, []int{0, 1}, 3, []api.Node{open("m", 4), open("m", 2)}},
	// A mono that isn't reached: what it leads to is fixed, though Root leads there, too; what Root doesn't reach is fixed, but never generic.
	{rooted(1, v, arrow(0, 2), v, arrow(0, 4), v), []int{3}, []int{0, 4}, []int{2}, 5, []api.Node{arrow(0, 6), v}}, {rooted(1, v, arrow(0, 2), v, v), []int{3}, []int{3}, []int{0, 2}, 4, []api.Node{arrow(5, 6), v, v}}, {rooted(1, v, integer), nil, nil, nil, 1, nil}, {rooted(1, v, integer), []int{0}, []int{0}, nil, 1, nil}, {rooted(1, open(""), v), nil, nil, []int{1}, 2, []api.Node{v}}, {rooted(1, open(""), v), []int{0}, []int{0}, []int{1}, 2, []api.Node{v}},
	// What isn't reached may lead to a generic node: it isn't copied, and goes on leading to what it did.
	{rooted(1, arrow(1, 2), shut("m", 2), v, open("a", 0)), nil, nil, []int{2}, 4, []api.Node{shut("m", 5), v}},
	// Numbers rise; copies stand in order, which is another one.
	{rooted(4, v, open(""), v, arrow(2, 0), times(3, 1)), nil, nil, []int{0, 1, 2}, 5, []api.Node{times(6, 9), arrow(7, 8), v, v, open("")}}, {rooted(3, v, v, v, arrow(2, 4), arrow(1, 0)), []int{1}, []int{1}, []int{0, 2}, 5, []api.Node{arrow(6, 7), v, arrow(1, 8), v}}, {rooted(2, v, v, arrow(1, 0)), []int{1, 0}, []int{0, 1}, nil, 2, nil},
	{nodes(shut("a b c", 3, 2, 1), v, shut("m", 3), shut("m", 1)), nil, nil, []int{1}, 4, []api.Node{shut("a b c", 5, 7, 6), shut("m", 6), v, shut("m", 5)}},
	// A node is copied once, wherever it is led to from.
	{nodes(times(1, 1), arrow(2, 2), v), nil, nil, []int{2}, 3, []api.Node{times(4, 4), arrow(5, 5), v}}, {nodes(times(1, 2), shut("m", 3), shut("n", 3), v), nil, nil, []int{3}, 4, []api.Node{times(5, 7), shut("m", 6), v, shut("n", 6)}},
	// What isn't general is what it was, between what is.
	{nodes(times(1, 2), arrow(3, 4), arrow(3, 3), integer, v), nil, nil, []int{4}, 5, []api.Node{times(6, 2), arrow(3, 7), v}}, {nodes(times(1, 2), shut("m", 1), v), nil, nil, []int{2}, 3, []api.Node{times(1, 4), v}}, {nodes(times(1, 2), arrow(3, 1), v, v), []int{3}, []int{3}, []int{2}, 4, []api.Node{times(1, 5), v}},
	// Around: what leads to a generic node by going round is general, and leads to its copy.
	{nodes(arrow(1, 0), v), nil, nil, []int{1}, 2, []api.Node{arrow(3, 2), v}}, {nodes(arrow(1, 0), v), []int{1}, []int{1}, nil, 0, nil}, {nodes(shut("m", 1), shut("m", 2), shut("m n", 0, 3), v), nil, nil, []int{3}, 4, []api.Node{shut("m", 5), shut("m", 6), shut("m n", 4, 7), v}}, {nodes(shut("m", 1), shut("m", 2), shut("m n", 1, 3), v), []int{3}, []int{3}, nil, 0, nil}, {nodes(times(1, 2), shut("m n", 1, 3), shut("m n", 2, 4), v, v), []int{3}, []int{3}, []int{4}, 5, []api.Node{times(1, 6), shut("m n", 6, 7), v}}, {nodes(times(1, 2), shut("m n", 2, 3), shut("m n", 1, 4), v, v), []int{3}, []int{3}, []int{4}, 5, []api.Node{times(6, 7), shut("m n", 7, 3), shut("m n", 6, 8), v}},
	// Labels are told whole.
	{nodes(open("a "+longest+" b", 1, 1, 0), v), []int{1}, []int{1}, []int{0}, 2, []api.Node{open("a "+longest+" b", 1, 1, 2)}},
	{nodes(api.Node{Kind: api.NObj, Open: true, Args: []int{}, Labels: []string{}}), []int{}, []int{}, []int{0}, 1, []api.Node{open("")}},
}

// P13.1, P13.2
func TestCopies(t *testing.T) {
	for _, x := range copies {
		wantFree(t, x.g, x.mono, x.fixed, x.generic)
		wantFresh(t, x.g, x.mono, x.root, x.more...)
	}
}

// P13.2, P13.3: types as they are written. Of each, the fresh copies with one node more that leads to both: without monos, and with one of the first free node.
func TestTypes(t *testing.T) {
	for _, x := range []struct{ text, apart, mono string }{
		{"int", "int * int", "int * int"}, {"'a", "'a * 'b", "'a * 'a"}, {"'a -> 'b", "('a -> 'b) * ('c -> 'd)", "('a -> 'b) * ('a -> 'c)"}, {"'a -> 'a", "('a -> 'a) * ('b -> 'b)", "('a -> 'a) * ('a -> 'a)"}, {"'a -> 'b -> 'a", "('a -> 'b -> 'a) * ('c -> 'd -> 'c)", "('a -> 'b -> 'a) * ('a -> 'c -> 'a)"},
		{"'a * int -> 'b", "('a * int -> 'b) * ('c * int -> 'd)", "('a * int -> 'b) * ('a * int -> 'c)"}, {"'a -> 'b as 'b", "('a -> 'b as 'b) * ('c -> 'd as 'd)", "('a -> 'b as 'b) * 'b"}, {"'a -> 'b as 'a", "('a -> 'b as 'a) * ('c -> 'd as 'c)", "('a -> 'b as 'a) * 'a"},
		{"< m : 'a ; n : 'b >", "< m : 'a ; n : 'b > * < m : 'c ; n : 'd >", "< m : 'a ; n : 'b > * < m : 'a ; n : 'c >"}, {"'a -> < m : 'b ; .. >", "('a -> < m : 'b ; .. >) * ('c -> < m : 'd ; .. >)", "('a -> < m : 'b ; .. >) * ('a -> < m : 'c ; .. >)"}, {"< m : 'a ; .. > -> 'a", "(< m : 'a ; .. > -> 'a) * (< m : 'b ; .. > -> 'b)", "((< m : 'a ; .. > as 'b) -> 'a) * ('b -> 'a)"}, {"'b -> < m : 'a ; n : 'b > as 'a", "('b -> < m : 'a ; n : 'b > as 'a) * ('d -> < m : 'c ; n : 'd > as 'c)", "('b -> < m : 'a ; n : 'b > as 'a) * 'a"},
		{"< m : 'a ; .. > as 'a", "(< m : 'a ; .. > as 'a) * (< m : 'b ; .. > as 'b)", "(< m : 'a ; .. > as 'a) * 'a"},
	} {
		g := read(t, x.text)
		var mono []int
		if free := graph.Free(g); len(free) > 0 {
			mono = free[:1]
		}
		wantBoth(t, g, nil, x.apart)
		wantBoth(t, g, mono, x.mono)
	}
}

// wantBoth holds a graph and its fresh copy to the type of both.
func wantBoth(t *testing.T, g api.Graph, mono []int, text string) {
	t.Helper()
	h, e := gen.Fresh(g, mono)
	if e != api.OK {
		t.Fatalf("Fresh(%v, %v): %d", g, mono, e)
	}
	both := rooted(len(h.N), append(h.N, times(g.Root, h.Root))...)
	if want := read(t, text); !graph.Same(both, want) {
		got, _ := name.Put(both)
		t.Errorf("Fresh(%v, %v): %s, want %s", g, mono, got, text)
	}
}

// badGraphs are graphs that may not be, of few nodes.
func badGraphs() []api.Graph {
	list := []api.Graph{{}, {N: []api.Node{}}, {Root: 1}, {Root: -1}}
	for _, root := range []int{-1, 3, api.MaxNodes, math.MinInt, math.MaxInt} {
		list = append(list, rooted(root, v, integer, open("")))
	}
	for _, bad := range []api.Node{
		{}, {Kind: 4}, {Kind: -1}, {Kind: math.MaxInt}, {Kind: api.NVar, Name: "a"}, {Kind: api.NVar, Args: []int{0}}, {Kind: api.NVar, Open: true}, {Kind: api.NVar, Labels: []string{"m"}},
		con(""), con("x"), con("<"), con("->"), con("*", 0), con("->", 0, 0, 0), con("int", 0), {Kind: api.NCon, Name: "int", Open: true}, {Kind: api.NCon, Name: "unit", Labels: []string{"m"}},
		{Kind: api.NObj, Name: "m"}, shut("m"), open("", 0), shut("m", 0, 0), shut("m m", 0, 0), open("n m", 0, 0), shut("let", 0), open("A", 0), shut(longest+"a", 0), {Kind: api.NObj, Labels: []string{""}, Args: []int{0}}, {Kind: api.NObj, Labels: []string{"a b"}, Args: []int{0}},
		arrow(-1, 0), arrow(0, 3), times(math.MaxInt, 0), times(0, math.MinInt), shut("m", 3), open("m n", 0, -1),
	} {
		// The Root itself; what Root leads to; what it doesn't lead to.
		list = append(list, nodes(bad, v, v), nodes(arrow(1, 2), v, bad), nodes(integer, v, bad), nodes(v, v, bad), rooted(2, bad, v, v))
	}
	return list
}

// P13.1, P13.2: wrong graphs, and monos that are no nodes.
func TestOfWhatMayNotBe(t *testing.T) {
	for _, g := range badGraphs() {
		for _, mono := range [][]int{nil, {0}, {1, 2}, {-1}, {3}} {
			wantErrors(t, g, mono, api.ErrArg, api.ErrArg)
		}
	}
	for _, g := range []api.Graph{nodes(v, v, v), nodes(integer, v, integer), rooted(2, arrow(0, 1), open(""), times(1, 0))} {
		for _, no := range []int{-1, 3, 4, api.MaxNodes, math.MinInt, math.MaxInt} {
			for _, mono := range [][]int{{no}, {no, 0}, {0, no}, {2, 1, no}, {no, no}} {
				wantErrors(t, g, mono, api.ErrArg, api.ErrArg)
			}
		}
		for _, mono := range [][]int{nil, {}, {0}, {2}, {2, 1, 0, 1, 2}} {
			wantErrors(t, g, mono, api.OK, api.OK)
		}
	}
}

// P13.1, P13.2: errors come in order, at the edges.
func TestErrorsOfMany(t *testing.T) {
	const most = api.MaxNodes
	for _, n := range []api.Node{v, integer, {}} {
		long := repeated(most+1, n)
		wantErrors(t, long, nil, api.ErrLong, api.ErrLong)
		wantErrors(t, long, []int{-1}, api.ErrLong, api.ErrLong)
		long.Root = -1
		wantErrors(t, long, []int{0}, api.ErrLong, api.ErrLong)
	}
	full := repeated(most, v)
	wantErrors(t, full, nil, api.OK, api.ErrLong)
	wantErrors(t, full, []int{1}, api.OK, api.ErrLong)
	wantErrors(t, full, []int{0}, api.OK, api.OK)
	wantErrors(t, full, []int{0, most - 1}, api.OK, api.OK)
	wantErrors(t, full, []int{0, most}, api.ErrArg, api.ErrArg)
	wantErrors(t, full, []int{most}, api.ErrArg, api.ErrArg)
	full.Root = most
	wantErrors(t, full, nil, api.ErrArg, api.ErrArg)
	full.Root = most - 1
	full.N[most-1] = integer
	wantErrors(t, full, nil, api.OK, api.OK)
	full.N[most-1] = api.Node{}
	wantErrors(t, full, []int{-1}, api.ErrArg, api.ErrArg)
	wantErrors(t, rooted(0, full.N[:most-1]...), nil, api.OK, api.OK)
	wantErrors(t, rooted(0, slices.Concat([]api.Node{arrow(1, 1)}, full.N[:most-3])...), nil, api.OK, api.OK)
	wantErrors(t, rooted(0, slices.Concat([]api.Node{arrow(1, 1)}, full.N[:most-2])...), nil, api.OK, api.ErrLong)
}
