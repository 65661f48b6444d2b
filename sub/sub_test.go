package sub_test

import (
	"fmt"
	"math"
	"slices"
	"strings"
	"testing"

	"trefoil/api"
	"trefoil/graph"
	"trefoil/load"
	"trefoil/sub"
)

var (
	longest          = strings.Repeat("a", api.MaxName)
	v                = api.Node{Kind: api.NVar}
	integer, boolean = con("int"), con("bool")
	unit             = con("unit")
)

func con(name string, args ...int) api.Node {
	return api.Node{Kind: api.NCon, Name: name, Args: args}
}
func arrow(a, b int) api.Node { return con("->", a, b) }
func times(a, b int) api.Node { return con("*", a, b) }
func shut(labels string, args ...int) api.Node {
	return api.Node{Kind: api.NObj, Labels: strings.Fields(labels), Args: args}
}
func open(labels string, args ...int) api.Node {
	n := shut(labels, args...)
	n.Open = true
	return n
}
func rooted(root int, nodes ...api.Node) api.Graph { return api.Graph{N: nodes, Root: root} }
func nodes(list ...api.Node) api.Graph             { return rooted(0, list...) }
func repeated(size int, n api.Node) api.Graph {
	return api.Graph{N: slices.Repeat([]api.Node{n}, size)}
}

// sameNodes says whether two graphs are told alike, node by node (nil and empty are one).
func sameNodes(g, h api.Graph) bool {
	return g.Root == h.Root && slices.EqualFunc(g.N, h.N, func(x, y api.Node) bool {
		return x.Kind == y.Kind && x.Name == y.Name && x.Open == y.Open && slices.Equal(x.Args, y.Args) && slices.Equal(x.Labels, y.Labels)
	})
}

// brief is the beginning of what a thing is told as.
func brief(x any) string {
	text := fmt.Sprint(x)
	return text[:min(len(text), 300)]
}

// read is a type's graph.
func read(t *testing.T, text string) api.Graph {
	t.Helper()
	g, e := load.Read(text)
	if e != api.OK {
		t.Fatalf("Read(%s): %d", text, e)
	}
	return g
}

// wantIs holds two graphs to whether the first one may stand for the second one, and the second one for the first one.
func wantIs(t *testing.T, g, h api.Graph, is, back bool) {
	t.Helper()
	if got, e := sub.Is(g, h); got != is || e != api.OK {
		t.Errorf("Is(%s, %s) = %v, %d", brief(g), brief(h), got, e)
	}
	if got, e := sub.Is(h, g); got != back || e != api.OK {
		t.Errorf("Is(%s, %s) = %v, %d", brief(h), brief(g), got, e)
	}
}

// wantError holds two graphs to an error.
func wantError(t *testing.T, g, h api.Graph, want api.Errno) {
	t.Helper()
	if got, e := sub.Is(g, h); got || e != want {
		t.Errorf("Is(%s, %s) = %v, %d, want %d", brief(g), brief(h), got, e, want)
	}
}

// P12.1, P12.3: types as they are written, of which the first one may stand for the second one, and the second one not for the first one.
func TestStands(t *testing.T) {
	for _, x := range []struct{ g, h string }{
		// The chapter's examples.
		{"< m : int ; n : int >", "< m : int >"}, {"< > -> int", "< m : int > -> int"},
		// Who has more may stand for who has less, wherever the label is.
		{"< m : int >", "< >"}, {"< a : int ; m : int >", "< m : int >"}, {"< a : int ; b : bool ; c : int ; d : bool >", "< b : bool ; d : bool >"}, {"< a : int ; b : bool ; c : int >", "< a : int ; c : int >"}, {"< a : int ; b : bool ; c : int >", "< b : bool >"}, {"< aa : int ; ab : int ; b : int >", "< ab : int >"},
		{"< m : < n : int > >", "< m : < > >"}, {"< m : < n : int ; o : int > ; n : int >", "< m : < o : int > >"}, {"< m : < m : < m : int > > >", "< m : < m : < > > >"}, {"< m : int -> < n : int > >", "< m : int -> < > >"},
		{"< m : int > * int", "< > * int"}, {"int * < m : int >", "int * < >"}, {"< m : int > * < n : int >", "< > * < >"}, {"< m : int > * (int * < n : int >)", "< m : int > * (int * < >)"}, {"(< m : int > as 'a) * 'a", "< m : int > * < >"},
		// What is taken goes the other way, and what is taken by that as it was.
		{"int -> < m : int >", "int -> < >"}, {"< > -> < m : int >", "< m : int > -> < >"}, {"< > -> < m : int >", "< m : int > -> < m : int >"}, {"(< m : int > -> int) -> int", "(< > -> int) -> int"}, {"int -> < > -> int", "int -> < m : int > -> int"}, {"((< > -> int) -> int) -> int", "((< m : int > -> int) -> int) -> int"},
		{"(int -> < >) -> int", "(int -> < m : int >) -> int"}, {"< m : < > -> int >", "< m : < m : int > -> int >"}, {"< m : < > > -> int", "< m : < n : int > > -> int"}, {"< > * int -> int", "< m : int > * int -> int"},
		// What goes round.
		{"< m : 'a ; n : int > as 'a", "< m : 'a > as 'a"}, {"< m : 'a > as 'a", "< >"}, {"< m : 'a > as 'a", "< m : < > >"}, {"< m : 'a > as 'a", "< m : < m : < m : < > > > >"}, {"< m : 'a ; n : 'a > as 'a", "< m : 'a > as 'a"}, {"< m : < m : 'a ; n : int > > as 'a", "< m : 'a > as 'a"}, {"< m : < m : 'a ; n : int > ; n : int > as 'a", "< m : < m : 'a ; n : int > > as 'a"}, {"< m : 'a ; n : int > as 'a", "< m : < m : 'a ; n : int > > as 'a"}, {"< m : < n : 'a ; m : int > > as 'a", "< m : < n : 'a > > as 'a"},
		{"int -> < m : 'a ; n : int > as 'a", "int -> < m : 'a > as 'a"}, {"int -> < m : 'a ; n : int > as 'a", "int -> < m : int -> < > >"}, {"< m : int > -> 'a as 'a", "< m : int > -> < m : int ; n : int > -> 'a as 'a"}, {"< m : int > * 'a as 'a", "< m : int > * < > * 'a as 'a"},
		{"< m : 'a -> int ; n : int > as 'a", "< m : < m : 'a -> int ; n : int > -> int > as 'a"}, {"< eq : < > -> bool ; n : int >", "< eq : < n : int > -> bool >"}, {"< eq : (< eq : 'a -> bool > as 'a) -> bool ; n : int >", "< eq : 'a -> bool > as 'a"},
	} {
		wantIs(t, read(t, x.g), read(t, x.h), true, false)
	}
}

// P12.1, P12.3: the same type, told in two ways.
func TestSame(t *testing.T) {
	for _, x := range []struct{ g, h string }{
		{"int", "int"}, {"unit", "unit"}, {"< >", "< >"}, {"< m : int ; n : bool >", "< n : bool ; m : int >"}, {"< > * < >", "(< > as 'a) * 'a"}, {"(int -> bool) * (int -> bool)", "(int -> bool as 'a) * 'a"},
		{"int -> int -> 'a as 'a", "int -> 'a as 'a"}, {"int -> int -> int -> 'a as 'a", "int -> int -> 'a as 'a"}, {"'a -> 'a as 'a", "('a -> 'a as 'a) -> ('b -> 'b as 'b)"}, {"('a -> int) -> int as 'a", "'a -> int as 'a"}, {"< m : < m : 'a > > as 'a", "< m : < m : (< m : 'a > as 'a) > >"}, {"< eq : 'a -> bool > as 'a", "< eq : < eq : 'a -> bool > -> bool > as 'a"},
	} {
		wantIs(t, read(t, x.g), read(t, x.h), true, true)
	}
}

// P12.1: types of which neither may stand for the other one.
func TestStandsNot(t *testing.T) {
	types := []string{"int", "bool", "string", "unit", "< m : int >", "< n : int >", "< m : bool >", "< m : unit -> unit >", "int -> int", "int -> bool", "bool -> int", "int * int", "int * bool", "bool * int", "int -> 'a as 'a", "bool -> 'a as 'a", "'a -> int as 'a", "'a * 'a as 'a", "'a -> 'a as 'a", "int * (int -> 'a) as 'a", "< m : int * 'a > as 'a", "< m : 'a > as 'a", "< n : 'a > as 'a"}
	for i, g := range types {
		for j, h := range types {
			wantIs(t, read(t, g), read(t, h), i == j, i == j)
		}
	}
	for _, x := range []struct{ g, h string }{
		{"int", "< >"}, {"int -> int", "< >"}, {"int * int", "< >"}, {"< m : int > -> int", "< m : int > * int"},
		{"< a : int ; m : int >", "< m : int ; n : int >"}, {"< a : int ; c : int >", "< b : int >"}, {"< m : int ; n : int >", "< m : bool >"}, {"< m : int ; n : int >", "< m : int ; n : bool >"}, {"< m : < n : int > >", "< m : < > ; n : int >"}, {"< m : < > ; n : int >", "< m : < m : int > >"}, {"< ab : int >", "< a : int ; b : int >"}, {"< a : int >", "< aa : int >"},
		{"< m : int > -> < m : int >", "< > -> < >"}, {"< m : int > -> int", "< > -> bool"}, {"< > * < m : int >", "< m : int > * < >"}, {"(< m : int > -> < m : int >) -> int", "(< > -> < >) -> int"}, {"< m : < m : int > -> int ; n : int >", "< m : < > -> int >"},
		{"< m : 'a -> int ; n : int > as 'a", "< m : 'a -> int > as 'a"}, {"< m : 'a -> int ; n : int > as 'a", "< m : < > -> int >"}, {"< m : 'a * 'a -> int ; n : int > as 'a", "< m : 'a * 'a -> int > as 'a"},
		{"< m : < m : 'a ; n : int > > as 'a", "< m : < m : 'a > ; n : int > as 'a"}, {"< m : 'a ; n : int > as 'a", "< m : < m : 'a ; n : bool > > as 'a"}, {"< m : < m : < m : 'a ; n : int > > > as 'a", "< m : < m : 'a ; n : int > > as 'a"}, {"int -> int -> bool -> 'a as 'a", "int -> int -> 'a as 'a"},
	} {
		wantIs(t, read(t, x.g), read(t, x.h), false, false)
	}
}

// P12.1: graphs that no written type is, or that tell more nodes than are reached.
func TestGraphs(t *testing.T) {
	for _, x := range []struct {
		g, h     api.Graph
		is, back bool
	}{
		{rooted(1, boolean, integer), nodes(integer, boolean), true, true}, {rooted(2, v, open(""), shut("m", 3), integer, open("m", 0)), rooted(1, v, shut("")), true, false}, {rooted(2, integer, v, arrow(0, 0)), rooted(3, v, v, integer, arrow(2, 2)), true, true},
		{nodes(times(1, 1), arrow(2, 2), integer), nodes(times(1, 2), arrow(3, 3), arrow(4, 4), integer, integer), true, true}, {nodes(shut("m", 0)), nodes(shut("m", 1), shut("m", 2), shut("m", 1)), true, true}, {nodes(shut("m", 1), shut("m", 2), shut("m", 0)), nodes(shut("m", 1), shut("m", 0)), true, true}, {nodes(shut("m n", 1, 1), shut("m n", 0, 0)), nodes(shut("m", 1), shut("m", 2), shut("m", 0)), true, false},
		{nodes(arrow(0, 0)), nodes(arrow(1, 2), arrow(0, 2), arrow(2, 1)), true, true}, {nodes(arrow(0, 0)), nodes(times(0, 0)), false, false}, {nodes(arrow(1, 0), shut("")), nodes(arrow(1, 0), shut("m", 0)), true, false}, {nodes(arrow(0, 1), shut("")), nodes(arrow(0, 1), shut("m", 2), integer), false, false}, {nodes(arrow(0, 1), shut("m", 1)), nodes(arrow(0, 1), shut("m", 0)), false, false},
		// One node is held against others, both ways.
		{nodes(times(1, 1), shut("m", 2), integer), nodes(times(1, 2), shut("m", 3), shut(""), integer), true, false}, {nodes(times(1, 2), shut("m", 3), shut("m n", 3, 3), integer), nodes(times(1, 1), shut("m", 2), integer), true, false}, {nodes(arrow(1, 1), shut("m", 2), integer), nodes(arrow(1, 2), shut("m n", 3, 3), shut(""), integer), true, false}, {nodes(arrow(1, 1), shut("m", 2), integer), nodes(arrow(1, 2), shut(""), shut("m n", 3, 3), integer), false, true},
		// Labels are told apart by all their bytes, and matched by what they are, not by where they stand.
		{nodes(shut("a b c", 1, 2, 1), boolean, integer), nodes(shut("b", 1), integer), true, false}, {nodes(shut("a b c", 1, 2, 1), integer, boolean), nodes(shut("b", 1), integer), false, false}, {nodes(shut("a aa ab", 1, 1, 1), unit), nodes(shut("a ab", 1, 1), unit), true, false}, {nodes(shut("a "+longest, 1, 1), unit), nodes(shut(longest, 1), unit), true, false}, {nodes(shut(longest, 1), unit), nodes(shut(longest[1:], 1), unit), false, false}, {nodes(shut("int", 1), integer), nodes(shut("")), true, false}, {nodes(shut("int", 1), integer), nodes(integer), false, false},
		// Nil and empty lists are one.
		{nodes(api.Node{Kind: api.NObj, Args: []int{}, Labels: []string{}}), nodes(api.Node{Kind: api.NObj}), true, true}, {nodes(api.Node{Kind: api.NCon, Name: "int", Args: []int{}, Labels: []string{}}), nodes(integer), true, true},
	} {
		wantIs(t, x.g, x.h, x.is, x.back)
	}
}

// P12.1: what isn't closed is refused, whatever the other one is.
func TestOpen(t *testing.T) {
	closed := []api.Graph{nodes(integer), nodes(shut("")), nodes(arrow(0, 0)), rooted(1, v, unit)}
	for _, g := range []api.Graph{
		nodes(v), nodes(open("")), nodes(open("m", 0)), nodes(open("m", 1), integer), nodes(arrow(1, 2), integer, v), nodes(arrow(1, 2), v, integer), nodes(times(1, 1), v), nodes(shut("m", 1), shut("m", 2), open("")), rooted(1, integer, shut("m n", 0, 2), open("n", 1)),
	} {
		wantError(t, g, g, api.ErrArg)
		for _, h := range closed {
			wantError(t, g, h, api.ErrArg)
			wantError(t, h, g, api.ErrArg)
		}
	}
}

// wantForget holds a graph without a label to what it should be.
func wantForget(t *testing.T, g api.Graph, label string, want api.Graph) {
	t.Helper()
	if got, e := sub.Forget(g, label); !sameNodes(got, want) || e != api.OK {
		t.Errorf("Forget(%s, %s) = %s, %d, want %s", brief(g), label, brief(got), e, brief(want))
	}
}

// P12.2
func TestForget(t *testing.T) {
	loop, pointed := nodes(shut("m n", 0, 1), integer), nodes(shut("a b", 1, 1), arrow(0, 0))
	for _, x := range []struct {
		g     api.Graph
		label string
		want  api.Graph
	}{
		{nodes(shut("m", 1), integer), "m", nodes(shut(""))}, {nodes(shut("m n", 1, 2), integer, boolean), "m", nodes(shut("n", 1), boolean)}, {nodes(shut("m n", 1, 2), integer, boolean), "n", nodes(shut("m", 1), integer)},
		{nodes(shut("a b c", 1, 2, 3), integer, boolean, unit), "a", nodes(shut("b c", 1, 2), boolean, unit)}, {nodes(shut("a b c", 1, 2, 3), integer, boolean, unit), "b", nodes(shut("a c", 1, 2), integer, unit)}, {nodes(shut("a b c", 1, 2, 3), integer, boolean, unit), "c", nodes(shut("a b", 1, 2), integer, boolean)}, {nodes(shut("a b c", 1, 1, 1), integer), "b", nodes(shut("a c", 1, 1), integer)},
		{nodes(shut("_ a "+longest, 1, 1, 1), v), longest, nodes(shut("_ a", 1, 1), v)}, {nodes(shut("a aa ab b", 1, 1, 2, 1), v, unit), "ab", nodes(shut("a aa b", 1, 1, 1), v)},
		// Who points to the Root, itself too, still points to one that has the label.
		{nodes(shut("m", 0)), "m", nodes(shut(""))}, {loop, "n", nodes(shut("m", 1), shut("m n", 1, 2), integer)}, {loop, "m", nodes(shut("n", 1), integer)}, {pointed, "a", nodes(shut("b", 1), arrow(2, 2), shut("a b", 1, 1))}, {pointed, "b", nodes(shut("a", 1), arrow(2, 2), shut("a b", 1, 1))}, {nodes(shut("a b", 1, 2), shut("a b", 0, 2), integer), "a", nodes(shut("b", 1), integer)}, {nodes(shut("a b", 1, 2), shut("a b", 0, 2), integer), "b", nodes(shut("a", 1), shut("a b", 2, 3), shut("a b", 1, 3), integer)},
		// The Root alone loses it.
		{nodes(shut("m", 1), shut("m", 2), unit), "m", nodes(shut(""))}, {nodes(shut("m n", 1, 1), shut("m n", 2, 2), unit), "n", nodes(shut("m", 1), shut("m n", 2, 2), unit)},
		// An open object stays open.
		{nodes(open("m", 1), v), "m", nodes(open(""))}, {nodes(open("m n", 0, 1), v), "m", nodes(open("n", 1), v)}, {nodes(open("m n", 0, 1), v), "n", nodes(open("m", 1), open("m n", 1, 2), v)},
		// Numbers are new, what isn't reached is left, and alike nodes stay as many.
		{rooted(2, v, integer, shut("a b", 1, 0)), "a", nodes(shut("b", 1), v)}, {rooted(2, v, integer, shut("a b c", 1, 0, 2)), "a", nodes(shut("b c", 1, 2), v, shut("a b c", 3, 1, 2), integer)}, {nodes(shut("a b c", 1, 2, 1), shut(""), shut("")), "c", nodes(shut("a b", 1, 2), shut(""), shut(""))}, {rooted(1, integer, shut("a", 0), boolean), "a", nodes(shut(""))},
	} {
		wantForget(t, x.g, x.label, x.want)
	}
	for _, x := range []struct{ g, label, want string }{
		{"< m : int ; n : bool >", "m", "< n : bool >"}, {"< m : int ; n : 'a > as 'a", "m", "< n : (< m : int ; n : 'a > as 'a) >"}, {"< m : int ; n : 'b -> 'a ; .. > as 'a", "m", "< n : 'b -> (< m : int ; n : 'b -> 'a ; .. > as 'a) ; .. >"}, {"< m : 'a ; n : 'a >", "n", "< m : 'a >"},
	} {
		if got, e := sub.Forget(read(t, x.g), x.label); e != api.OK || !graph.Same(got, read(t, x.want)) {
			t.Errorf("Forget(%s, %s) = %v, %d, want %s", x.g, x.label, got, e, x.want)
		}
	}
}

// wantNoForget holds a graph without a label to an error.
func wantNoForget(t *testing.T, g api.Graph, label string, want api.Errno) {
	t.Helper()
	if got, e := sub.Forget(g, label); e != want || got.N != nil || got.Root != 0 {
		t.Errorf("Forget(%s, %q) = %s, %d, want %d", brief(g), label, brief(got), e, want)
	}
}

// P12.2: what is no object, and a label that it hasn't.
func TestForgetNone(t *testing.T) {
	for _, g := range []api.Graph{
		nodes(v), nodes(integer), nodes(arrow(0, 0)), nodes(times(1, 1), shut("m", 0)), rooted(1, shut("m", 0), v), nodes(shut("")), nodes(open("")), nodes(shut("a ma mm n", 0, 1, 0, 0), shut("m", 0)), nodes(open("l", 1), open("m", 0)), nodes(shut(longest, 0)),
	} {
		for _, label := range []string{"", "m", " m", "m ", "M", "aa", "let", "\x00", "\xff", longest[1:], longest + "a", strings.Repeat("m", 1000)} {
			wantNoForget(t, g, label, api.ErrNone)
		}
	}
}

// badGraphs are graphs that may not be, of few nodes.
func badGraphs() []api.Graph {
	list := []api.Graph{{}, {N: []api.Node{}}, {Root: 1}, {Root: -1}}
	for _, root := range []int{-1, 3, api.MaxNodes, math.MinInt, math.MaxInt} {
		list = append(list, rooted(root, shut("m", 0), integer, shut("")))
	}
	for _, bad := range []api.Node{
		{}, {Kind: 4}, {Kind: -1}, {Kind: math.MaxInt}, {Kind: api.NVar, Name: "a"}, {Kind: api.NVar, Args: []int{0}}, {Kind: api.NVar, Open: true}, {Kind: api.NVar, Labels: []string{"m"}},
		con(""), con("x"), con("<"), con("->"), con("*", 0), con("->", 0, 0, 0), con("int", 0), {Kind: api.NCon, Name: "int", Open: true}, {Kind: api.NCon, Name: "unit", Labels: []string{"m"}},
		{Kind: api.NObj, Name: "m"}, shut("m"), open("", 0), shut("m", 0, 0), shut("m m", 0, 0), open("n m", 0, 0), shut("let", 0), open("A", 0), shut(longest+"a", 0), {Kind: api.NObj, Labels: []string{""}, Args: []int{0}}, {Kind: api.NObj, Labels: []string{"a b"}, Args: []int{0}},
		arrow(-1, 0), arrow(0, 3), times(math.MaxInt, 0), times(0, math.MinInt), shut("m", 3), open("m n", 0, -1),
	} {
		// The Root itself; what Root leads to; what it doesn't lead to.
		list = append(list, nodes(bad, v, v), nodes(shut("m n", 1, 2), integer, bad), nodes(shut("m", 0), integer, bad), nodes(v, v, bad), rooted(2, bad, v, v))
	}
	return list
}

// P12.1, P12.2: of what may not be; the first one's error is told, whatever the second one is.
func TestOfWhatMayNotBe(t *testing.T) {
	long := repeated(api.MaxNodes+1, integer)
	bad := badGraphs()
	for i, g := range bad {
		if e := graph.Check(g); e != api.ErrArg {
			t.Fatalf("Check(%v) = %d", g, e)
		}
		for _, label := range []string{"m", "n", "", "let"} {
			wantNoForget(t, g, label, api.ErrArg)
		}
		for _, h := range []api.Graph{nodes(integer), nodes(v), bad[(i+1)%len(bad)], g} {
			wantError(t, g, h, api.ErrArg)
			wantError(t, h, g, api.ErrArg)
		}
		wantError(t, g, long, api.ErrArg)
		wantError(t, long, g, api.ErrLong)
	}
	for _, n := range []api.Node{integer, v, shut("m", 0), {}} {
		long := repeated(api.MaxNodes+1, n)
		wantNoForget(t, long, "m", api.ErrLong)
		wantError(t, long, long, api.ErrLong)
		for _, g := range []api.Graph{nodes(integer), nodes(v)} {
			wantError(t, g, long, api.ErrLong)
			wantError(t, long, g, api.ErrLong)
		}
		long.N, long.Root = long.N[1:], api.MaxNodes
		wantNoForget(t, long, "m", api.ErrArg)
		wantError(t, long, nodes(integer), api.ErrArg)
	}
}
