package canon_test

import (
	"fmt"
	"math"
	"slices"
	"strings"
	"testing"

	"trefoil/api"
	"trefoil/canon"
	"trefoil/graph"
	"trefoil/load"
)

var (
	longest          = strings.Repeat("a", api.MaxName)
	v                = api.Node{Kind: api.NVar}
	integer, boolean = con("int"), con("bool")
)

func con(name string, args ...int) api.Node {
	return api.Node{Kind: api.NCon, Name: name, Args: args}
}
func arrow(a, b int) api.Node { return con("->", a, b) }
func times(a, b int) api.Node { return con("*", a, b) }
func shut(labels string, args ...int) api.Node {
	return api.Node{Kind: api.NObj, Labels: strings.Fields(labels), Args: args}
}
func open(labels string, args ...int) api.Node {
	n := shut(labels, args...)
	n.Open = true
	return n
}
func rooted(root int, nodes ...api.Node) api.Graph { return api.Graph{N: nodes, Root: root} }
func nodes(list ...api.Node) api.Graph             { return rooted(0, list...) }
func repeated(size int, n api.Node) api.Graph {
	return api.Graph{N: slices.Repeat([]api.Node{n}, size)}
}

// sameNodes says whether two graphs are told alike, node by node (nil and empty are one).
func sameNodes(g, h api.Graph) bool {
	return g.Root == h.Root && slices.EqualFunc(g.N, h.N, func(x, y api.Node) bool {
		return x.Kind == y.Kind && x.Name == y.Name && x.Open == y.Open && slices.Equal(x.Args, y.Args) && slices.Equal(x.Labels, y.Labels)
	})
}

// brief is the beginning of what a thing is told as.
func brief(x any) string {
	text := fmt.Sprint(x)
	return text[:min(len(text), 300)]
}

// wantLeast holds a graph to its classes, its least graph and its key.
func wantLeast(t *testing.T, g api.Graph, classes []int, least api.Graph, key string) {
	t.Helper()
	if got := canon.Classes(g); !slices.Equal(got, classes) {
		t.Errorf("Classes(%s) = %s, want %s", brief(g), brief(got), brief(classes))
	}
	if got := canon.Least(g); !sameNodes(got, least) {
		t.Errorf("Least(%s) = %s, want %s", brief(g), brief(got), brief(least))
	}
	if got := canon.Key(g); got != key {
		t.Errorf("Key(%s) = %s, want %s", brief(g), brief(got), brief(key))
	}
}

// P9.1, P9.2
func TestLeast(t *testing.T) {
	for _, x := range []struct {
		g       api.Graph
		classes []int
		least   api.Graph
		key     string
	}{
		// One node of each kind.
		{nodes(v), []int{0}, nodes(v), "v;"},
		{nodes(integer), []int{0}, nodes(integer), "int;"},
		{nodes(boolean), []int{0}, nodes(boolean), "bool;"},
		{nodes(con("string")), []int{0}, nodes(con("string")), "string;"},
		{nodes(con("unit")), []int{0}, nodes(con("unit")), "unit;"},
		{nodes(arrow(0, 0)), []int{0}, nodes(arrow(0, 0)), "-> 0 0;"},
		{nodes(times(0, 0)), []int{0}, nodes(times(0, 0)), "* 0 0;"},
		{nodes(shut("")), []int{0}, nodes(shut("")), "<;"},
		{nodes(open("")), []int{0}, nodes(open("")), "<..;"},
		{nodes(shut("m", 0)), []int{0}, nodes(shut("m", 0)), "< m 0;"},
		{nodes(open("_ a1 int", 0, 0, 0)), []int{0}, nodes(open("_ a1 int", 0, 0, 0)), "<.. _ a1 int 0 0 0;"},
		{nodes(shut(longest+" b", 0, 0)), []int{0}, nodes(shut(longest+" b", 0, 0)), "< " + longest + " b 0 0;"},
		// The chapter's example, both of it.
		{nodes(arrow(1, 2), integer, arrow(3, 0), integer), []int{0, 1, 0, 1}, nodes(arrow(1, 0), integer), "-> 1 0;int;"},
		{nodes(arrow(1, 0), integer), []int{0, 1}, nodes(arrow(1, 0), integer), "-> 1 0;int;"},
		// A free node is alike to itself alone; so is what leads to one, from what leads to another one.
		{nodes(times(1, 2), v, v), []int{0, 1, 2}, nodes(times(1, 2), v, v), "* 1 2;v;v;"},
		{nodes(times(1, 1), v), []int{0, 1}, nodes(times(1, 1), v), "* 1 1;v;"},
		{nodes(times(1, 2), open(""), open("")), []int{0, 1, 2}, nodes(times(1, 2), open(""), open("")), "* 1 2;<..;<..;"},
		{nodes(times(1, 2), open("m", 3), open("m", 4), integer, integer), []int{0, 1, 2, 3, 3}, nodes(times(1, 3), open("m", 2), integer, open("m", 2)), "* 1 3;<.. m 2;int;<.. m 2;"},
		{nodes(times(1, 2), open("m", 1), shut("m", 2)), []int{0, 1, 2}, nodes(times(1, 2), open("m", 1), shut("m", 2)), "* 1 2;<.. m 1;< m 2;"},
		{nodes(times(1, 2), open("m", 2), open("m", 1)), []int{0, 1, 2}, nodes(times(1, 2), open("m", 2), open("m", 1)), "* 1 2;<.. m 2;<.. m 1;"},
		{nodes(times(1, 2), shut("m", 3), shut("m", 4), v, v), []int{0, 1, 2, 3, 4}, nodes(times(1, 3), shut("m", 2), v, shut("m", 4), v), "* 1 3;< m 2;v;< m 4;v;"},
		{nodes(times(1, 2), shut("m", 3), shut("m", 3), v, v), []int{0, 1, 1, 3, 4}, nodes(times(1, 1), shut("m", 2), v), "* 1 1;< m 2;v;"},
		// What isn't free is one node, unless Kind, Name, Labels or Args tell it apart.
		{nodes(times(1, 2), shut(""), shut("")), []int{0, 1, 1}, nodes(times(1, 1), shut("")), "* 1 1;<;"},
		{nodes(times(1, 2), arrow(3, 3), times(3, 3), integer), []int{0, 1, 2, 3}, nodes(times(1, 3), arrow(2, 2), integer, times(2, 2)), "* 1 3;-> 2 2;int;* 2 2;"},
		{nodes(times(1, 2), integer, boolean), []int{0, 1, 2}, nodes(times(1, 2), integer, boolean), "* 1 2;int;bool;"},
		{nodes(times(1, 2), arrow(3, 4), arrow(4, 3), integer, boolean), []int{0, 1, 2, 3, 4}, nodes(times(1, 4), arrow(2, 3), integer, boolean, arrow(3, 2)), "* 1 4;-> 2 3;int;bool;-> 3 2;"},
		{nodes(times(1, 2), shut("m", 3), shut("n", 3), integer), []int{0, 1, 2, 3}, nodes(times(1, 3), shut("m", 2), integer, shut("n", 2)), "* 1 3;< m 2;int;< n 2;"},
		{nodes(times(1, 2), shut("int", 2), integer, integer), []int{0, 1, 2, 2}, nodes(times(1, 2), shut("int", 2), integer), "* 1 2;< int 2;int;"},
		{nodes(shut("a b", 1, 2), shut("a", 0), shut("a b", 1, 0)), []int{0, 1, 0}, nodes(shut("a b", 1, 0), shut("a", 0)), "< a b 1 0;< a 0;"},
		{nodes(shut("a b", 1, 2), shut("a b", 0, 2), shut("b", 1)), []int{0, 0, 2}, nodes(shut("a b", 0, 1), shut("b", 0)), "< a b 0 1;< b 0;"},
		{nodes(shut("a ab", 1, 2), shut("a", 0), shut("ab", 0), shut("aa b", 0, 0), shut("a ab", 1, 2)), []int{0, 1, 2, 3, 0}, nodes(shut("a ab", 1, 2), shut("a", 0), shut("ab", 0)), "< a ab 1 2;< a 0;< ab 0;"},
		// What is told apart only some steps on.
		{nodes(times(1, 2), shut("m", 3), shut("m", 4), shut("m", 5), shut("m", 6), integer, boolean), []int{0, 1, 2, 3, 4, 5, 6}, nodes(times(1, 4), shut("m", 2), shut("m", 3), integer, shut("m", 5), shut("m", 6), boolean), "* 1 4;< m 2;< m 3;int;< m 5;< m 6;bool;"},
		{nodes(times(1, 2), shut("m", 3), shut("m", 4), shut("m", 5), shut("m", 6), integer, integer), []int{0, 1, 1, 3, 3, 5, 5}, nodes(times(1, 1), shut("m", 2), shut("m", 3), integer), "* 1 1;< m 2;< m 3;int;"},
		{nodes(shut("m", 1), shut("m", 2), shut("m", 3), integer), []int{0, 1, 2, 3}, nodes(shut("m", 1), shut("m", 2), shut("m", 3), integer), "< m 1;< m 2;< m 3;int;"},
		// What goes round.
		{nodes(shut("m", 1), shut("m", 2), shut("m", 0)), []int{0, 0, 0}, nodes(shut("m", 0)), "< m 0;"},
		{nodes(times(1, 2), shut("m", 1), shut("m", 3), shut("m", 2)), []int{0, 1, 1, 1}, nodes(times(1, 1), shut("m", 1)), "* 1 1;< m 1;"},
		{nodes(arrow(1, 2), arrow(0, 0), arrow(2, 1)), []int{0, 0, 0}, nodes(arrow(0, 0)), "-> 0 0;"},
		{nodes(shut("m", 1), shut("m", 2), shut("m", 3), shut("n", 0)), []int{0, 1, 2, 3}, nodes(shut("m", 1), shut("m", 2), shut("m", 3), shut("n", 0)), "< m 1;< m 2;< m 3;< n 0;"},
		{nodes(shut("m", 1), shut("n", 2), shut("m", 3), shut("n", 0)), []int{0, 1, 0, 1}, nodes(shut("m", 1), shut("n", 0)), "< m 1;< n 0;"},
		{nodes(arrow(1, 2), v, arrow(1, 0)), []int{0, 1, 0}, nodes(arrow(1, 0), v), "-> 1 0;v;"},
		{nodes(arrow(1, 2), v, arrow(3, 0), v), []int{0, 1, 2, 3}, nodes(arrow(1, 2), v, arrow(3, 0), v), "-> 1 2;v;-> 3 0;v;"},
		// Root isn't the least one; the least one isn't reached, but for its being that.
		{rooted(1, shut("m", 0), shut("m", 0)), []int{0, 0}, nodes(shut("m", 0)), "< m 0;"},
		{rooted(3, shut("m", 1), integer, integer, shut("m", 2)), []int{0, 1, 1, 0}, nodes(shut("m", 1), integer), "< m 1;int;"},
		{rooted(2, integer, v, arrow(3, 1), integer), []int{0, 1, 2, 0}, nodes(arrow(1, 2), integer, v), "-> 1 2;int;v;"},
		// What isn't reached.
		{rooted(1, v, integer, v, boolean, integer, arrow(5, 0), arrow(5, 0), arrow(6, 0)), []int{0, 1, 2, 3, 1, 5, 5, 5}, nodes(integer), "int;"},
		// Args of more digits than one.
		{nodes(shut("a b c d e f g h i j k", 11, 10, 9, 8, 7, 6, 5, 4, 3, 2, 1), v, v, v, v, v, v, v, v, v, v, v), []int{0, 1, 2, 3, 4, 5, 6, 7, 8, 9, 10, 11}, nodes(shut("a b c d e f g h i j k", 1, 2, 3, 4, 5, 6, 7, 8, 9, 10, 11), v, v, v, v, v, v, v, v, v, v, v), "< a b c d e f g h i j k 1 2 3 4 5 6 7 8 9 10 11;" + strings.Repeat("v;", 11)},
		// Nil and empty lists are one.
		{nodes(times(1, 2), integer, api.Node{Kind: api.NCon, Name: "int", Args: []int{}, Labels: []string{}}), []int{0, 1, 1}, nodes(times(1, 1), integer), "* 1 1;int;"},
		{nodes(times(1, 2), api.Node{Kind: api.NObj}, api.Node{Kind: api.NObj, Args: []int{}, Labels: []string{}}), []int{0, 1, 1}, nodes(times(1, 1), shut("")), "* 1 1;<;"},
	} {
		wantLeast(t, x.g, x.classes, x.least, x.key)
	}
}

// P9.2: types as they are written.
func TestKey(t *testing.T) {
	for _, x := range []struct{ text, key string }{
		{"int -> int -> 'a as 'a", "-> 1 0;int;"}, {"int -> 'a as 'a", "-> 1 0;int;"},
		{"'a", "v;"}, {"'a -> 'b -> 'a", "-> 1 2;v;-> 3 1;v;"}, {"int * int -> int", "-> 1 2;* 2 2;int;"}, {"(int -> int) * (int -> int)", "* 1 1;-> 2 2;int;"},
		{"(int as 'i) -> 'i", "-> 1 1;int;"}, {"int -> int", "-> 1 1;int;"}, {"string * (bool -> unit)", "* 1 2;string;-> 3 4;bool;unit;"},
		{"< >", "<;"}, {"< .. >", "<..;"}, {"< > * < >", "* 1 1;<;"}, {"< .. > * < .. >", "* 1 2;<..;<..;"}, {"(< .. > as 'a) * 'a", "* 1 1;<..;"},
		{"< n : int ; m : 'a >", "< m n 1 2;v;int;"}, {"< m : 'a ; .. > as 'a", "<.. m 0;"}, {"< m : < m : < m : 'a > > > as 'a", "< m 0;"}, {"< m : < m : (< m : 'a > as 'a) > >", "< m 0;"}, {"< m : < m : (< m : 'a ; .. > as 'a) > >", "< m 1;< m 2;<.. m 2;"},
		{"< v : 'a > * < get : 'a ; .. >", "* 1 3;< v 2;v;<.. get 2;"},
		{"(int -> < m : 'a > as 'a) * (< m : int -> < m : int -> 'b > > as 'b)", "* 1 3;-> 2 3;int;< m 1;"},
	} {
		g, e := load.Read(x.text)
		if key := canon.Key(g); e != api.OK || key != x.key {
			t.Errorf("Key(%s) = %s, want %s", x.text, key, x.key)
		}
	}
}

// badGraphs are graphs that may not be, of few nodes.
func badGraphs() []api.Graph {
	list := []api.Graph{{}, {N: []api.Node{}}, {Root: 1}, {Root: -1}}
	for _, root := range []int{-1, 3, api.MaxNodes, math.MinInt, math.MaxInt} {
		list = append(list, rooted(root, v, integer, open("")))
	}
	for _, bad := range []api.Node{
		{}, {Kind: 4}, {Kind: -1}, {Kind: math.MaxInt}, {Kind: api.NVar, Name: "a"}, {Kind: api.NVar, Args: []int{0}}, {Kind: api.NVar, Open: true}, {Kind: api.NVar, Labels: []string{"m"}},
		con(""), con("x"), con("<"), con("->"), con("*", 0), con("->", 0, 0, 0), con("int", 0), {Kind: api.NCon, Name: "int", Open: true}, {Kind: api.NCon, Name: "unit", Labels: []string{"m"}},
		{Kind: api.NObj, Name: "m"}, shut("m"), open("", 0), shut("m", 0, 0), shut("m m", 0, 0), open("n m", 0, 0), shut("let", 0), open("A", 0), shut(longest+"a", 0), {Kind: api.NObj, Labels: []string{""}, Args: []int{0}}, {Kind: api.NObj, Labels: []string{"a b"}, Args: []int{0}},
		arrow(-1, 0), arrow(0, 3), times(math.MaxInt, 0), times(0, math.MinInt), shut("m", 3), open("m n", 0, -1),
	} {
		// The Root itself; what Root leads to; what it doesn't lead to.
		list = append(list, nodes(bad, v, v), nodes(arrow(1, 2), v, bad), nodes(v, v, bad), rooted(2, bad, v, v))
	}
	return list
}

// wantNothing holds what may not be to an empty answer.
func wantNothing(t *testing.T, g api.Graph) {
	t.Helper()
	if e := graph.Check(g); e == api.OK {
		t.Fatalf("%s may be", brief(g))
	}
	if got := canon.Classes(g); len(got) != 0 {
		t.Errorf("Classes(%s) = %s", brief(g), brief(got))
	}
	if got := canon.Least(g); len(got.N) != 0 || got.Root != 0 {
		t.Errorf("Least(%s) = %s", brief(g), brief(got))
	}
	if got := canon.Key(g); got != "" {
		t.Errorf("Key(%s) = %s", brief(g), brief(got))
	}
}

// P9.1, P9.2: of what may not be.
func TestOfWhatMayNotBe(t *testing.T) {
	for _, g := range badGraphs() {
		wantNothing(t, g)
	}
	long := repeated(api.MaxNodes+1, v)
	wantNothing(t, long)
	long.N[0], long.Root = con("x"), -1
	wantNothing(t, long)
	long.N, long.Root = long.N[1:], api.MaxNodes
	wantNothing(t, long)
	long.Root = 0
	if got := canon.Key(long); got != "v;" {
		t.Errorf("%s", brief(got))
	}
}
