package name_test

import (
	"fmt"
	"math"
	"slices"
	"strings"
	"testing"

	"trefoil/api"
	"trefoil/lex"
	"trefoil/load"
	"trefoil/name"
	"trefoil/tree"
	"trefoil/typ"
)

var (
	longest          = strings.Repeat("a", api.MaxName)
	v                = api.Node{Kind: api.NVar}
	integer, boolean = con("int"), con("bool")
)

func con(name string, args ...int) api.Node {
	return api.Node{Kind: api.NCon, Name: name, Args: args}
}
func arrow(a, b int) api.Node { return con("->", a, b) }
func times(a, b int) api.Node { return con("*", a, b) }
func shut(labels string, args ...int) api.Node {
	return api.Node{Kind: api.NObj, Labels: strings.Fields(labels), Args: args}
}
func open(labels string, args ...int) api.Node {
	n := shut(labels, args...)
	n.Open = true
	return n
}
func rooted(root int, nodes ...api.Node) api.Graph { return api.Graph{N: nodes, Root: root} }
func nodes(list ...api.Node) api.Graph             { return rooted(0, list...) }
func repeated(size int, n api.Node) api.Graph {
	return api.Graph{N: slices.Repeat([]api.Node{n}, size)}
}

func tvar(s string) api.Type { return api.Type{Kind: api.TVar, S: s} }
func tcon(s string, args ...api.Type) api.Type {
	return api.Type{Kind: api.TCon, S: s, Args: args}
}
func tas(s string, arg api.Type) api.Type {
	return api.Type{Kind: api.TAs, S: s, Args: []api.Type{arg}}
}
func tobj(open bool, labels string, args ...api.Type) api.Type {
	return api.Type{Kind: api.TObj, Open: open, Labels: strings.Fields(labels), Args: args}
}

// brief is the beginning of what a thing is told as.
func brief(x any) string {
	text := fmt.Sprint(x)
	return text[:min(len(text), 300)]
}

// wantType holds a graph to its type, and to its text, if that may be put.
func wantType(t *testing.T, g api.Graph, want api.Type) {
	t.Helper()
	got, e := name.Type(g)
	if e != api.OK || !tree.SameType(got, want) {
		t.Errorf("Type(%s) = %s, %d, want %s", brief(g), brief(got), e, brief(want))
	}
	text, f := typ.Put(want)
	if put, e := name.Put(g); e != f || put != text {
		t.Errorf("Put(%s) = %s, %d, want %s, %d", brief(g), brief(put), e, brief(text), f)
	}
}

// wantError holds a graph to an error, and to nothing beside it.
func wantError(t *testing.T, g api.Graph, want api.Errno) {
	t.Helper()
	if got, e := name.Type(g); e != want || !tree.SameType(got, api.Type{}) {
		t.Errorf("Type(%s) = %s, %d, want %d", brief(g), brief(got), e, want)
	}
	if got, e := name.Put(g); e != want || got != "" {
		t.Errorf("Put(%s) = %s, %d, want %d", brief(g), brief(got), e, want)
	}
}

// P10.1
func TestName(t *testing.T) {
	for n, want := range map[int]string{
		0: "a", 1: "b", 12: "m", 24: "y", 25: "z", 26: "a1", 27: "b1", 51: "z1", 52: "a2", 77: "z2", 259: "z9", 260: "a10", 285: "z10", 286: "a11", 26 * 26: "a26", 26*100 - 1: "z99", 26 * 100: "a100",
		math.MaxInt32: "x82595524", math.MaxInt: "h354745078340568300", math.MaxInt - 7: "a354745078340568300", math.MaxInt - 8: "z354745078340568299",
		-1: "", -2: "", -25: "", -26: "", -27: "", math.MinInt32: "", math.MinInt: "", math.MinInt + 1: "",
	} {
		if got := name.Name(n); got != want {
			t.Errorf("Name(%d) = %q, want %q", n, got, want)
		}
	}
	seen := map[string]int{}
	for n := range 10000 {
		got := name.Name(n)
		if was, twice := seen[got]; twice || !lex.IsName(got) || got != string(rune('a'+n%26))+strings.TrimPrefix(fmt.Sprint(n/26), "0") {
			t.Errorf("Name(%d) = %q, Name(%d), too", n, got, was)
		}
		seen[got] = n
	}
}

// P10.1: nodes of each kind, what is shared, and what isn't.
func TestType(t *testing.T) {
	a, b, c := tvar("a"), tvar("b"), tvar("c")
	tint, none := tcon("int"), tobj(false, "")
	for _, x := range []struct {
		g    api.Graph
		want api.Type
	}{
		{nodes(v), a}, {rooted(2, integer, v, v), a},
		{nodes(integer), tint}, {nodes(boolean), tcon("bool")}, {nodes(con("string")), tcon("string")}, {nodes(con("unit")), tcon("unit")},
		{nodes(arrow(1, 2), v, v), tcon("->", a, b)}, {nodes(arrow(1, 1), v), tcon("->", a, a)}, {nodes(times(2, 1), v, v), tcon("*", a, b)},
		{nodes(times(1, 2), integer, boolean), tcon("*", tint, tcon("bool"))},
		{nodes(shut("")), none}, {nodes(open("")), tobj(true, "")},
		{nodes(shut("m n", 1, 2), integer, v), tobj(false, "m n", tint, a)}, {nodes(open("m n", 2, 1), v, v), tobj(true, "m n", a, b)},
		{nodes(shut("_ "+longest, 1, 1), v), tobj(false, "_ "+longest, a, a)},
		// Root counts as one place: what goes round to it is shared.
		{nodes(arrow(0, 0)), tas("a", tcon("->", a, a))}, {nodes(times(0, 0)), tas("a", tcon("*", a, a))},
		{nodes(shut("m", 0)), tas("a", tobj(false, "m", a))}, {nodes(open("m", 0)), tas("a", tobj(true, "m", a))},
		{nodes(arrow(1, 0), v), tas("a", tcon("->", b, a))}, {nodes(arrow(0, 1), v), tas("a", tcon("->", a, b))},
		{nodes(arrow(1, 2), integer, times(3, 0), v), tas("a", tcon("->", tint, tcon("*", b, a)))},
		// What has no Args isn't shared, unless it is free; a variable isn't either.
		{nodes(arrow(1, 1), integer), tcon("->", tint, tint)}, {nodes(times(1, 1), shut("")), tcon("*", none, none)}, {nodes(times(1, 2), shut(""), shut("")), tcon("*", none, none)},
		{nodes(times(1, 1), open("")), tcon("*", tas("a", tobj(true, "")), a)}, {nodes(times(1, 2), open(""), open("")), tcon("*", tobj(true, ""), tobj(true, ""))},
		// What is an Arg of two places, of one node or of two.
		{nodes(times(1, 1), arrow(2, 2), integer), tcon("*", tas("a", tcon("->", tint, tint)), a)},
		{nodes(times(1, 2), arrow(3, 3), arrow(3, 3), integer), tcon("*", tas("a", tcon("->", tint, tint)), a)},
		{nodes(times(1, 2), arrow(3, 3), shut("m", 1), integer), tcon("*", tas("a", tcon("->", tint, tint)), tobj(false, "m", a))},
		{nodes(times(2, 1), arrow(3, 3), shut("m", 1), integer), tcon("*", tobj(false, "m", tas("a", tcon("->", tint, tint))), a)},
		{nodes(times(1, 2), open("m", 3), open("m", 3), arrow(4, 4), integer), tcon("*", tobj(true, "m", tas("a", tcon("->", tint, tint))), tobj(true, "m", a))},
		{nodes(times(1, 1), open("m", 2), v), tcon("*", tas("a", tobj(true, "m", b)), a)},
		{nodes(times(1, 2), shut("m", 1), arrow(1, 3), v), tcon("*", tas("a", tobj(false, "m", a)), tcon("->", a, b))},
		{nodes(shut("m", 1), shut("n", 1)), tobj(false, "m", tas("a", tobj(false, "n", a)))},
		// Names, as they come first: a node's ahead of those within it.
		{nodes(times(1, 2), v, arrow(3, 3), shut("m", 4), v), tcon("*", a, tcon("->", tas("b", tobj(false, "m", c)), b))},
		{nodes(times(1, 2), arrow(3, 3), arrow(4, 3), shut("m n", 4, 0), v), tas("a", tcon("*", tcon("->", tas("b", tobj(false, "m n", c, a)), b), tcon("->", c, b)))},
		{nodes(shut("m n o", 3, 2, 1), v, v, v), tobj(false, "m n o", a, b, c)},
		// Places are those of the least graph: of what is reached, and of what is alike once.
		{rooted(1, arrow(1, 1), arrow(2, 2), v, times(1, 2)), tcon("->", a, a)},
		{nodes(arrow(1, 2), integer, arrow(3, 0), integer), tas("a", tcon("->", tint, a))},
		{nodes(shut("m", 1), shut("m", 2), shut("m", 1)), tas("a", tobj(false, "m", a))},
		{nodes(shut("m", 1), shut("m", 2), open("m", 2)), tobj(false, "m", tobj(false, "m", tas("a", tobj(true, "m", a))))},
		{nodes(times(1, 2), shut("m", 3), shut("m", 4), shut("m", 5), shut("m", 6), integer, integer), tcon("*", tas("a", tobj(false, "m", tobj(false, "m", tint))), a)},
	} {
		wantType(t, x.g, x.want)
	}
}

// P10.2: types as they are written, and as they are told.
func TestPut(t *testing.T) {
	for _, x := range []struct{ text, want string }{
		{"'x -> 'y -> 'x", "'a -> 'b -> 'a"}, {"(int -> int) * (int -> int)", "(int -> int as 'a) * 'a"},
		{"'in", "'a"}, {"'b -> 'a", "'a -> 'b"}, {"int -> int -> 'a as 'a", "int -> 'a as 'a"}, {"(int -> int) -> bool", "(int -> int) -> bool"}, {"(int as 'i) * 'i", "int * int"},
		{"< n : 'x ; m : 'y >", "< m : 'a ; n : 'b >"}, {"< >", "< >"}, {"< .. >", "< .. >"}, {"< m : int ; .. > -> 'a", "< m : int ; .. > -> 'a"}, {"< .. > -> < .. >", "< .. > -> < .. >"}, {"(< .. > as 'z) -> 'z", "(< .. > as 'a) -> 'a"},
		{"< me : 'b > as 'b", "< me : 'a > as 'a"}, {"'b -> 'c as 'b", "'a -> 'b as 'a"}, {"('x * 'x as 'y) -> 'y", "('b * 'b as 'a) -> 'a"}, {"('x as 'y) -> 'y", "'a -> 'a"},
		{"('v -> < v : 'v >) * < get : 'v ; .. >", "('a -> < v : 'a >) * < get : 'a ; .. >"}, {"'v -> < v : 'v > * < get : 'v ; .. >", "'a -> < v : 'a > * < get : 'a ; .. >"},
		{"< a : ('c as 'b) ; z : 'b >", "< a : 'a ; z : 'a >"}, {"('x -> 'z as 'y) * ('y -> 'x)", "('b -> 'c as 'a) * ('a -> 'b)"},
		{"bool * string * unit", "bool * string * unit"}, {"(bool * string) * unit", "(bool * string) * unit"}, {"bool -> int as 'a", "bool -> int"},
		{"< m : < m : 'a ; .. > > as 'a", "< m : < m : 'a ; .. > > as 'a"}, {"< m : < m : 'a > > as 'a", "< m : 'a > as 'a"},
	} {
		g, e := load.Read(x.text)
		if e != api.OK {
			t.Errorf("Read(%s): %d", x.text, e)
		}
		if got, e := name.Put(g); e != api.OK || got != x.want {
			t.Errorf("Put of %s = %s, %d, want %s", x.text, got, e, x.want)
		}
	}
}

// badGraphs are graphs that may not be, of few nodes.
func badGraphs() []api.Graph {
	list := []api.Graph{{}, {N: []api.Node{}}, {Root: 1}, {Root: -1}}
	for _, root := range []int{-1, 3, api.MaxNodes, math.MinInt, math.MaxInt} {
		list = append(list, rooted(root, v, integer, open("")))
	}
	for _, bad := range []api.Node{
		{}, {Kind: 4}, {Kind: -1}, {Kind: math.MaxInt}, {Kind: api.NVar, Name: "a"}, {Kind: api.NVar, Args: []int{0}}, {Kind: api.NVar, Open: true}, {Kind: api.NVar, Labels: []string{"m"}},
		con(""), con("x"), con("<"), con("->"), con("*", 0), con("->", 0, 0, 0), con("int", 0), {Kind: api.NCon, Name: "int", Open: true}, {Kind: api.NCon, Name: "unit", Labels: []string{"m"}},
		{Kind: api.NObj, Name: "m"}, shut("m"), open("", 0), shut("m", 0, 0), shut("m m", 0, 0), open("n m", 0, 0), shut("let", 0), open("A", 0), shut(longest+"a", 0), {Kind: api.NObj, Labels: []string{""}, Args: []int{0}}, {Kind: api.NObj, Labels: []string{"a b"}, Args: []int{0}},
		arrow(-1, 0), arrow(0, 3), times(math.MaxInt, 0), times(0, math.MinInt), shut("m", 3), open("m n", 0, -1),
	} {
		// The Root itself; what Root leads to; what it doesn't lead to.
		list = append(list, nodes(bad, v, v), nodes(arrow(1, 2), v, bad), nodes(v, v, bad), rooted(2, bad, v, v))
	}
	return list
}

// chain is a graph of so many nodes, each of which leads to the next, but for the last one.
func chain(size int, last api.Node) api.Graph {
	var g api.Graph
	for i := range size - 1 {
		g.N = append(g.N, shut("m", i+1))
	}
	g.N = append(g.N, last)
	return g
}

// P10.1, P10.2: of what may not be; ahead of what is too deep.
func TestOfWhatMayNotBe(t *testing.T) {
	for _, g := range badGraphs() {
		wantError(t, g, api.ErrArg)
	}
	deep := chain(api.MaxDeep+9, v)
	wantError(t, deep, api.ErrDeep)
	deep.N = append(deep.N, con("x"))
	wantError(t, deep, api.ErrArg)
	deep.N, deep.Root = deep.N[:api.MaxDeep+9], -1
	wantError(t, deep, api.ErrArg)
	long := repeated(api.MaxNodes+1, v)
	wantError(t, long, api.ErrLong)
	long.N[0], long.Root = con("x"), -1
	wantError(t, long, api.ErrLong)
	long.N, long.Root = long.N[1:], api.MaxNodes
	wantError(t, long, api.ErrArg)
	long.Root = 0
	wantType(t, long, tvar("a"))
}

// chained is so many objects within one another, and a type within them.
func chained(size int, last api.Type) api.Type {
	for range size {
		last = tobj(false, "m", last)
	}
	return last
}

// P10.1: as deep as a type may be, and one level more; an as is a level, and a name that ends one is, too.
func TestDeep(t *testing.T) {
	const most = api.MaxDeep
	for _, x := range []struct {
		last api.Node
		want api.Type
	}{{v, tvar("a")}, {integer, tcon("int")}, {shut(""), tobj(false, "")}, {open(""), tobj(true, "")}} {
		wantType(t, chain(most, x.last), chained(most-1, x.want))
		wantError(t, chain(most+1, x.last), api.ErrDeep)
	}
	// A last node that goes round to itself: an as, the node, a name.
	wantType(t, chain(most-2, open("m", most-3)), chained(most-3, tas("a", tobj(true, "m", tvar("a")))))
	wantError(t, chain(most-1, open("m", most-2)), api.ErrDeep)
	wantType(t, chain(most-3, arrow(most-4, most-4)), chained(most-4, tas("a", tcon("->", tvar("a"), tvar("a")))))
	wantType(t, chain(most-2, arrow(most-3, most-3)), chained(most-3, tas("a", tcon("->", tvar("a"), tvar("a")))))
	wantError(t, chain(most-1, arrow(most-2, most-2)), api.ErrDeep)
	// One that goes round to the Root.
	wantType(t, chain(most-2, open("m", 0)), tas("a", chained(most-3, tobj(true, "m", tvar("a")))))
	wantError(t, chain(most-1, open("m", 0)), api.ErrDeep)
	// A shared node of no Args is one level by its as, and one by itself; elsewhere its name is one.
	ends := func(size int) api.Graph {
		g := chain(size, times(size, size))
		g.N = append(g.N, open(""))
		return g
	}
	wantType(t, ends(most-2), chained(most-3, tcon("*", tas("a", tobj(true, "")), tvar("a"))))
	wantError(t, ends(most-1), api.ErrDeep)
	// What comes first where it is not deep is a name where it is.
	names := func(size int) api.Graph {
		g := chain(size, shut("m", size+1))
		g.N = append(g.N, arrow(size+1, 0), shut("x y z", size+2, size+2, size+2), integer)
		g.Root = size
		return g
	}
	inner := tobj(false, "x y z", tcon("int"), tcon("int"), tcon("int"))
	wantType(t, names(most-2), tcon("->", tas("a", inner), chained(most-2, tvar("a"))))
	wantError(t, names(most-1), api.ErrDeep)
}
