package inst_test

import (
	"fmt"
	"math"
	"slices"
	"strings"
	"testing"

	"trefoil/api"
	"trefoil/graph"
	"trefoil/inst"
	"trefoil/load"
)

var (
	longest          = strings.Repeat("a", api.MaxName)
	v                = api.Node{Kind: api.NVar}
	integer, boolean = con("int"), con("bool")
	unit             = con("unit")
)

func con(name string, args ...int) api.Node {
	return api.Node{Kind: api.NCon, Name: name, Args: args}
}
func arrow(a, b int) api.Node { return con("->", a, b) }
func times(a, b int) api.Node { return con("*", a, b) }
func shut(labels string, args ...int) api.Node {
	return api.Node{Kind: api.NObj, Labels: strings.Fields(labels), Args: args}
}
func open(labels string, args ...int) api.Node {
	n := shut(labels, args...)
	n.Open = true
	return n
}
func rooted(root int, nodes ...api.Node) api.Graph { return api.Graph{N: nodes, Root: root} }
func nodes(list ...api.Node) api.Graph             { return rooted(0, list...) }
func repeated(size int, n api.Node) api.Graph {
	return api.Graph{N: slices.Repeat([]api.Node{n}, size)}
}

// sameNodes says whether two graphs are told alike, node by node (nil and empty are one).
func sameNodes(g, h api.Graph) bool {
	return g.Root == h.Root && slices.EqualFunc(g.N, h.N, func(x, y api.Node) bool {
		return x.Kind == y.Kind && x.Name == y.Name && x.Open == y.Open && slices.Equal(x.Args, y.Args) && slices.Equal(x.Labels, y.Labels)
	})
}

// brief is the beginning of what a thing is told as.
func brief(x any) string {
	text := fmt.Sprint(x)
	return text[:min(len(text), 300)]
}

// read is a type's graph.
func read(t *testing.T, text string) api.Graph {
	t.Helper()
	g, e := load.Read(text)
	if e != api.OK {
		t.Fatalf("Read(%s): %d", text, e)
	}
	return g
}

// wantIs holds two graphs to whether the second one is an instance of the first one, and the first one of the second one.
func wantIs(t *testing.T, g, h api.Graph, is, back bool) {
	t.Helper()
	if got := inst.Is(g, h); got != is {
		t.Errorf("Is(%s, %s) = %v", brief(g), brief(h), got)
	}
	if got := inst.Is(h, g); got != back {
		t.Errorf("Is(%s, %s) = %v", brief(h), brief(g), got)
	}
	if got := inst.More(g, h); got != (is && !back) {
		t.Errorf("More(%s, %s) = %v", brief(g), brief(h), got)
	}
	if got := inst.More(h, g); got != (back && !is) {
		t.Errorf("More(%s, %s) = %v", brief(h), brief(g), got)
	}
}

// P11.1: types as they are written, of which the second one is an instance of the first one, and the first one is none of it.
func TestInstances(t *testing.T) {
	for _, x := range []struct{ g, h string }{
		// The chapter's examples.
		{"'a -> 'a", "int -> int"}, {"< m : 'a ; .. >", "< m : int ; n : int >"},
		// A variable is matched with any.
		{"'a", "int"}, {"'a", "bool"}, {"'a", "string"}, {"'a", "unit"}, {"'a", "'a -> 'b"}, {"'a", "'a * 'a"}, {"'a", "< >"}, {"'a", "< .. >"}, {"'a", "< m : 'a ; .. > as 'a"}, {"'a", "'a -> 'b as 'a"},
		{"'a -> 'b", "'a -> 'a"}, {"'a -> 'b", "int -> int"}, {"'a -> 'b", "int -> bool"}, {"'a -> 'b", "'b -> int"}, {"'a * 'b", "int * (bool * 'a)"}, {"'a -> 'a", "(int -> int) -> int -> int"}, {"'a -> 'b", "('a -> 'b) -> 'a as 'b"},
		{"'a -> 'b", "'a -> 'b as 'a"}, {"'a -> 'b", "'a -> 'a as 'a"}, {"'a -> 'a", "'a -> 'a as 'a"}, {"'a -> 'b -> 'c", "int -> 'a as 'a"}, {"'a * 'b", "('a * 'b as 'a) * 'b"},
		{"'a -> int -> 'a", "bool -> int -> bool"}, {"('a -> 'b) -> 'b -> 'a", "(int -> bool) -> bool -> int"},
		{"'a -> 'b as 'a", "'a -> int as 'a"}, {"'a -> 'b as 'a", "'a -> 'a as 'a"}, {"int -> 'a -> 'b as 'b", "int -> int -> 'b as 'b"}, {"'b -> 'a -> 'c as 'c", "int -> 'a as 'a"}, {"'b -> 'a -> 'c as 'c", "'b -> 'a as 'a"},
		// An open object is matched with an object, open or not, that has all its labels.
		{"< .. >", "< >"}, {"< .. >", "< m : int >"}, {"< .. >", "< m : int ; .. >"}, {"< .. >", "< m : 'a ; .. > as 'a"}, {"< .. >", "< a : 'a ; b : 'b ; c : 'c ; .. >"},
		{"< m : int ; .. >", "< m : int >"}, {"< m : int ; .. >", "< m : int ; n : bool ; .. >"}, {"< m : int ; .. >", "< a : bool ; m : int >"}, {"< a : 'a ; c : 'b ; .. >", "< a : int ; b : int ; c : bool ; d : int >"}, {"< a : 'a ; c : 'a ; .. >", "< a : int ; b : bool ; c : int ; d : bool ; .. >"},
		{"< m : 'a ; .. >", "< m : int ; .. >"}, {"< m : 'a ; .. >", "< m : 'a >"}, {"< m : 'a ; .. > -> 'a", "< m : int ; n : bool > -> int"}, {"< m : 'a ; .. >", "< m : 'a > as 'a"}, {"< m : 'a ; .. >", "< m : 'a ; .. > as 'a"}, {"< m : < .. > ; .. >", "< m : 'a ; .. > as 'a"}, {"int -> 'a", "int -> 'a as 'a"},
		{"< m : 'a ; .. > as 'a", "< m : 'a > as 'a"}, {"< m : 'a ; .. > as 'a", "< m : 'a ; n : int > as 'a"}, {"< m : 'a ; .. > as 'a", "< m : 'a ; n : 'a ; .. > as 'a"}, {"< m : < m : 'a ; .. > ; .. > as 'a", "< m : 'a ; .. > as 'a"}, {"< m : < m : 'a > ; .. > as 'a", "< m : 'a > as 'a"},
		{"< .. > * < .. >", "(< .. > as 'a) * 'a"}, {"< .. > * < .. >", "< > * < m : int >"}, {"(< .. > as 'a) * 'a", "< > * < >"}, {"(< .. > as 'a) * 'a", "(< m : 'b ; .. > as 'a) * 'a"}, {"(< m : 'b ; .. > as 'a) * 'a", "< m : int > * < m : int >"},
		{"< m : < .. > >", "< m : < n : int > >"}, {"< m : 'a ; n : 'b >", "< m : 'a ; n : 'a >"}, {"< m : 'a >", "< m : int >"}, {"< m : 'a >", "< m : 'a > as 'a"},
		// What is shared on the one side alone, or goes round there by more steps.
		{"('a -> 'b) * ('a -> 'b)", "(int -> bool) * (int -> bool)"}, {"('a -> 'b as 'c) * 'c", "(int -> bool) * (int -> bool)"}, {"'a * 'a", "(int -> int) * (int -> int)"}, {"'a * 'a", "(int -> int -> 'a as 'a) * (int -> 'b as 'b)"}, {"'a * 'a", "(< m : < m : 'a > > as 'a) * (< m : 'b > as 'b)"},
		{"'c -> 'c -> 'a as 'a", "int -> 'a as 'a"}, {"'c -> 'd -> 'a as 'a", "'c -> 'a as 'a"}, {"'c -> 'd -> 'a as 'a", "int -> bool -> 'a as 'a"}, {"'c -> 'd -> 'c -> 'd -> 'a as 'a", "int -> bool -> 'a as 'a"}, {"'b -> (int -> int -> 'a as 'a)", "int -> 'a as 'a"},
	} {
		wantIs(t, read(t, x.g), read(t, x.h), true, false)
	}
}

// P11.1: types of which neither is an instance of the other one.
func TestNoInstances(t *testing.T) {
	for _, x := range []struct{ g, h string }{
		{"int", "bool"}, {"string", "unit"}, {"int", "< >"}, {"int", "< .. >"}, {"int -> int", "int * int"}, {"int -> int", "int"}, {"int -> bool", "bool -> int"}, {"< >", "int -> int"}, {"< .. >", "'a -> 'b"}, {"< .. >", "'a * 'b"},
		{"'a -> int", "bool -> 'a"}, {"'a -> int", "int -> bool"}, {"'a -> 'a", "int -> bool"}, {"'a -> 'a", "int -> 'a"}, {"'a -> 'a", "'a -> int"}, {"'a -> 'a", "(int -> int) -> int"}, {"'a * 'a", "'a * ('a * 'a)"}, {"'a * 'a", "(int -> int) * (int -> bool)"}, {"'a -> 'a", "'a -> 'b as 'a"}, {"'a -> 'a", "'b -> 'a as 'a"},
		{"('a -> 'b) -> 'a -> 'b", "(int -> bool) -> bool -> int"}, {"'a -> 'b -> 'a", "int -> int -> bool"}, {"'a -> 'b as 'a", "'b -> 'a as 'a"}, {"'a -> int as 'a", "int -> 'a as 'a"}, {"'a -> 'b as 'a", "int -> int"}, {"int -> int -> 'a as 'a", "int -> bool -> 'a as 'a"}, {"int -> 'a as 'a", "int -> int"}, {"'a -> 'a", "('b -> 'c) -> 'b as 'c"},
		{"'c -> 'c -> 'a as 'a", "int -> bool -> 'a as 'a"}, {"'c -> 'd -> 'a as 'a", "int -> bool -> int -> 'a as 'a"}, {"'c -> 'd -> 'e -> 'a as 'a", "int -> bool -> 'a as 'a"},
		{"< >", "< m : int >"}, {"< m : int >", "< n : int >"}, {"< m : int >", "< m : bool >"}, {"< m : int >", "< m : int ; n : int >"}, {"< m : int >", "< m : 'a ; n : 'b ; .. >"}, {"< m : 'a >", "< m : int ; .. >"}, {"< m : int ; .. >", "< n : int >"}, {"< m : int ; .. >", "< >"}, {"< m : int ; .. >", "< n : int ; .. >"}, {"< m : int ; .. >", "< m : bool ; .. >"}, {"< m : int ; .. >", "< m : 'a >"}, {"< m : 'a ; n : 'a ; .. >", "< m : int ; n : bool >"}, {"< m : 'a ; n : 'a ; .. >", "< m : int >"}, {"< b : 'a ; .. >", "< a : int ; c : int >"}, {"< a : 'a ; z : 'a ; .. >", "< a : int ; b : int ; y : int >"},
		{"(< .. > as 'a) * 'a", "< > * < m : int >"}, {"(< .. > as 'a) * 'a", "< .. > * < m : int ; .. >"}, {"(< .. > as 'a) * 'a", "< > * < .. >"}, {"< m : 'a ; .. > as 'a", "< m : < > >"}, {"< m : 'a ; .. > as 'a", "< m : < > ; .. >"}, {"< m : 'a ; .. > as 'a", "< m : < m : 'a ; .. > > as 'a"}, {"< m : 'a ; .. > as 'a", "< m : < m : 'a ; n : int > > as 'a"}, {"< m : < m : 'a ; .. > > as 'a", "< m : < m : 'a > ; n : int > as 'a"},
		{"(int -> 'a) * 'a", "(bool -> 'a) * 'a"}, {"int * 'a", "bool * int"}, {"'a * int", "int * bool"}, {"int * (bool * string)", "int * (bool * 'a) * 'b"},
	} {
		wantIs(t, read(t, x.g), read(t, x.h), false, false)
	}
}

// P11.1, P11.2: the same type, told in two ways.
func TestSame(t *testing.T) {
	for _, x := range []struct{ g, h string }{
		{"int", "int"}, {"'a", "'b"}, {"'a -> 'b", "'b -> 'a"}, {"'a -> 'a", "'b -> 'b"}, {"< .. >", "< .. >"}, {"< m : 'a ; n : 'b ; .. >", "< n : 'c ; m : 'a ; .. >"}, {"< > * < >", "(< > as 'a) * 'a"}, {"< .. > * < .. >", "< .. > * < .. >"},
		{"int -> int -> 'a as 'a", "int -> 'a as 'a"}, {"'b -> 'b -> 'a as 'a", "'b -> 'a as 'a"}, {"'b -> 'c -> 'b -> 'c -> 'a as 'a", "'c -> 'b -> 'a as 'a"}, {"< m : < m : 'a > > as 'a", "< m : < m : (< m : 'a > as 'a) > >"}, {"< m : < m : 'a ; .. > ; .. > as 'a", "< m : < m : 'a ; .. > ; .. > as 'a"},
		{"(int -> bool) * (int -> bool)", "(int -> bool as 'a) * 'a"}, {"('a -> 'b) * ('a -> 'b)", "('a -> 'b as 'c) * 'c"}, {"'a -> 'a as 'a", "('a -> 'a as 'a) -> ('b -> 'b as 'b)"}, {"(< m : 'b ; .. > as 'a) * 'b * 'a", "(< m : 'c ; .. > as 'a) * ('c * 'a)"},
	} {
		wantIs(t, read(t, x.g), read(t, x.h), true, true)
	}
}

// P11.1: graphs that no written type is, or that tell more nodes than are reached.
func TestGraphs(t *testing.T) {
	for _, x := range []struct {
		g, h     api.Graph
		is, back bool
	}{
		{nodes(v, integer), nodes(integer, v), true, false}, {rooted(1, v, integer), nodes(v, integer), false, true}, {rooted(2, integer, v, integer), nodes(integer), true, true},
		// A free node that isn't reached is nobody's match; nor is a node that isn't.
		{rooted(2, v, integer, arrow(1, 1), arrow(0, 0)), nodes(arrow(1, 2), integer, integer), true, true}, {nodes(times(1, 1), integer, times(2, 2)), nodes(times(1, 1), integer, arrow(1, 2)), true, true},
		// What is alike is one node; a free node is alike to itself alone.
		{nodes(times(1, 1), v), nodes(times(1, 2), arrow(3, 4), arrow(4, 3), integer, integer), true, false}, {nodes(times(1, 1), v), nodes(times(1, 2), integer, boolean), false, false}, {nodes(times(1, 1), v), nodes(times(1, 2), v, v), false, true}, {nodes(times(1, 1), open("")), nodes(times(1, 2), shut(""), shut("")), true, false}, {nodes(times(1, 1), open("")), nodes(times(1, 2), open(""), open("")), false, true}, {nodes(times(1, 1), open("")), nodes(times(1, 2), shut("m", 3), shut("m", 4), v, v), false, false}, {nodes(times(1, 1), open("")), nodes(times(1, 2), shut("m", 3), shut("m", 3), v), true, false},
		{nodes(times(1, 1), v), nodes(times(1, 2), shut("m", 2), shut("m", 1)), true, false}, {nodes(times(1, 1), v), nodes(times(1, 2), shut("m", 2), shut("m", 3), shut("m", 1)), true, false}, {nodes(times(1, 1), v), nodes(times(1, 2), shut("m", 2), open("m", 1)), false, false}, {nodes(times(1, 1), v), nodes(times(0, 0)), true, false}, {nodes(times(0, 1), v), nodes(times(0, 0)), true, false}, {nodes(times(0, 1), v), nodes(times(1, 0), v), false, false},
		// What isn't free may be matched with more nodes than one, of those that are alike.
		{nodes(times(1, 1), arrow(2, 2), integer), nodes(times(1, 2), arrow(3, 3), arrow(4, 4), integer, integer), true, true}, {nodes(times(1, 1), arrow(2, 2), v), nodes(times(1, 2), arrow(3, 3), arrow(4, 4), integer, integer), true, false}, {nodes(times(1, 1), arrow(2, 2), v), nodes(times(1, 2), arrow(3, 3), arrow(4, 4), integer, boolean), false, false}, {nodes(times(1, 1), arrow(2, 2), v), nodes(times(1, 2), arrow(3, 3), arrow(4, 4), v, v), false, true},
		{nodes(shut("m", 0)), nodes(shut("m", 1), shut("m", 2), shut("m", 0)), true, true}, {nodes(shut("m", 0)), nodes(shut("m", 1), shut("m", 2), shut("m", 1), integer), true, true}, {nodes(shut("m", 0)), nodes(shut("m", 1), shut("m", 2), shut("m", 3), integer), false, false}, {nodes(open("m", 0)), nodes(shut("m", 1), shut("m", 2), shut("m", 0)), true, false}, {nodes(open("m", 0)), nodes(shut("m", 1), open("m", 0)), false, false}, {nodes(open("m", 1), open("m", 0)), nodes(open("m", 0)), true, false}, {nodes(open("m", 1), open("m", 0)), nodes(shut("m", 1), open("m", 0)), true, false}, {nodes(open("m", 1), open("m", 0)), nodes(open("m", 1), open("m", 2), open("m", 0)), false, false}, {nodes(shut("m", 1), open("m", 0)), nodes(shut("m", 1), shut("m", 0)), true, false},
		// Labels are told apart by all their bytes, and matched by what they are, not by where they stand.
		{nodes(open("b", 1), integer), nodes(shut("a b c", 1, 2, 1), boolean, integer), true, false}, {nodes(open("b", 1), integer), nodes(shut("a b c", 1, 2, 1), integer, boolean), false, false}, {nodes(open("a ab", 1, 1), v), nodes(open("a aa ab", 1, 2, 1), integer, boolean), true, false}, {nodes(open("ab", 1), v), nodes(open("a b", 1, 1), integer), false, false}, {nodes(shut("a b", 1, 1), v), nodes(shut("ab", 1), v), false, false}, {nodes(open(longest, 1), v), nodes(shut("a "+longest, 1, 1), integer), true, false}, {nodes(open(longest, 1), v), nodes(shut(longest[1:], 1), integer), false, false},
		{nodes(open("int", 1), v), nodes(shut("int", 1), integer), true, false}, {nodes(open("")), nodes(shut("int", 1), integer), true, false},
		// A chain of open objects, each of more labels.
		{nodes(open("m", 1), open("m", 2), v), nodes(open("m n", 1, 0), open("m n", 0, 1)), true, false}, {nodes(open("m", 1), open("n", 0)), nodes(open("m n", 0, 0)), true, false}, {nodes(open("m", 1), open("n", 0)), nodes(shut("m n", 1, 1), open("n", 0)), true, false}, {nodes(open("m", 1), open("n", 0)), nodes(shut("m n", 1, 1), shut("m", 0)), false, false},
		// Nil and empty lists are one.
		{nodes(times(1, 1), api.Node{Kind: api.NObj}), nodes(times(1, 2), shut(""), api.Node{Kind: api.NObj, Args: []int{}, Labels: []string{}}), true, true}, {nodes(api.Node{Kind: api.NObj, Open: true, Args: []int{}}), nodes(api.Node{Kind: api.NObj, Labels: []string{}}), true, false},
	} {
		wantIs(t, x.g, x.h, x.is, x.back)
	}
}

// P11.1
func TestClose(t *testing.T) {
	for _, x := range []struct {
		g      api.Graph
		closed bool
		want   api.Graph
	}{
		{nodes(v), false, nodes(unit)}, {nodes(integer), true, nodes(integer)}, {nodes(unit), true, nodes(unit)}, {nodes(shut("")), true, nodes(shut(""))}, {nodes(open("")), false, nodes(shut(""))}, {nodes(open("m", 0)), false, nodes(shut("m", 0))}, {nodes(shut("m", 0)), true, nodes(shut("m", 0))}, {nodes(arrow(0, 0)), true, nodes(arrow(0, 0))}, {nodes(times(0, 0)), true, nodes(times(0, 0))},
		{nodes(arrow(1, 2), v, v), false, nodes(arrow(1, 2), unit, unit)}, {nodes(arrow(1, 1), v), false, nodes(arrow(1, 1), unit)}, {nodes(arrow(1, 2), integer, v), false, nodes(arrow(1, 2), integer, unit)}, {nodes(arrow(1, 2), integer, integer), true, nodes(arrow(1, 2), integer, integer)}, {nodes(open("m n", 1, 0), open("m", 2), v), false, nodes(shut("m n", 1, 0), shut("m", 2), unit)}, {nodes(shut("m", 1), shut("m", 2), open("")), false, nodes(shut("m", 1), shut("m", 2), shut(""))}, {nodes(open("m", 1), v), false, nodes(shut("m", 1), unit)},
		// Root alone tells what is reached, and what comes first.
		{rooted(1, v, integer), true, nodes(integer)}, {rooted(1, integer, v), false, nodes(unit)}, {rooted(2, v, open(""), shut("m", 3), boolean, arrow(0, 1)), true, nodes(shut("m", 1), boolean)}, {rooted(2, v, integer, arrow(1, 0)), false, nodes(arrow(1, 2), integer, unit)}, {rooted(2, integer, v, arrow(3, 1), v), false, nodes(arrow(1, 2), unit, unit)}, {rooted(3, v, v, v, times(2, 0)), false, nodes(times(1, 2), unit, unit)},
		// Alike nodes stay as many.
		{nodes(times(1, 2), shut(""), shut("")), true, nodes(times(1, 2), shut(""), shut(""))}, {nodes(times(1, 2), shut("m", 2), open("m", 1)), false, nodes(times(1, 2), shut("m", 2), shut("m", 1))},
	} {
		if got := inst.Closed(x.g); got != x.closed {
			t.Errorf("Closed(%v) = %v", x.g, got)
		}
		if got := inst.Close(x.g); !sameNodes(got, x.want) {
			t.Errorf("Close(%v) = %v, want %v", x.g, got, x.want)
		}
	}
}

// badGraphs are graphs that may not be, of few nodes.
func badGraphs() []api.Graph {
	list := []api.Graph{{}, {N: []api.Node{}}, {Root: 1}, {Root: -1}}
	for _, root := range []int{-1, 3, api.MaxNodes, math.MinInt, math.MaxInt} {
		list = append(list, rooted(root, v, integer, open("")))
	}
	for _, bad := range []api.Node{
		{}, {Kind: 4}, {Kind: -1}, {Kind: math.MaxInt}, {Kind: api.NVar, Name: "a"}, {Kind: api.NVar, Args: []int{0}}, {Kind: api.NVar, Open: true}, {Kind: api.NVar, Labels: []string{"m"}},
		con(""), con("x"), con("<"), con("->"), con("*", 0), con("->", 0, 0, 0), con("int", 0), {Kind: api.NCon, Name: "int", Open: true}, {Kind: api.NCon, Name: "unit", Labels: []string{"m"}},
		{Kind: api.NObj, Name: "m"}, shut("m"), open("", 0), shut("m", 0, 0), shut("m m", 0, 0), open("n m", 0, 0), shut("let", 0), open("A", 0), shut(longest+"a", 0), {Kind: api.NObj, Labels: []string{""}, Args: []int{0}}, {Kind: api.NObj, Labels: []string{"a b"}, Args: []int{0}},
		arrow(-1, 0), arrow(0, 3), times(math.MaxInt, 0), times(0, math.MinInt), shut("m", 3), open("m n", 0, -1),
	} {
		// The Root itself; what Root leads to; what it doesn't lead to.
		list = append(list, nodes(bad, v, v), nodes(arrow(1, 2), v, bad), nodes(integer, v, bad), nodes(v, v, bad), rooted(2, bad, v, v))
	}
	return list
}

// wantNothing holds what may not be to an empty answer.
func wantNothing(t *testing.T, g api.Graph) {
	t.Helper()
	if e := graph.Check(g); e == api.OK {
		t.Fatalf("%s may be", brief(g))
	}
	for _, h := range []api.Graph{nodes(v), nodes(integer), nodes(arrow(1, 2), v, v), g} {
		wantIs(t, g, h, false, false)
	}
	if inst.Closed(g) {
		t.Errorf("Closed(%s)", brief(g))
	}
	if got := inst.Close(g); len(got.N) != 0 || got.Root != 0 {
		t.Errorf("Close(%s) = %s", brief(g), brief(got))
	}
}

// P11.1: of what may not be.
func TestOfWhatMayNotBe(t *testing.T) {
	bad := badGraphs()
	for i, g := range bad {
		wantNothing(t, g)
		wantIs(t, g, bad[(i+1)%len(bad)], false, false)
	}
	for _, n := range []api.Node{v, integer} {
		long := repeated(api.MaxNodes+1, n)
		wantNothing(t, long)
		long.N[0], long.Root = con("x"), -1
		wantNothing(t, long)
		long.N, long.Root = long.N[1:], api.MaxNodes
		wantNothing(t, long)
		long.Root = 0
		wantIs(t, long, nodes(n), true, true)
		if inst.Closed(long) == (n.Kind == api.NVar) || len(inst.Close(long).N) != 1 {
			t.Errorf("Closed, Close(%s)", brief(long))
		}
	}
}
