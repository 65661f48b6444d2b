package load_test

import (
	"math"
	"slices"
	"strconv"
	"strings"
	"testing"

	"trefoil/api"
	"trefoil/graph"
	"trefoil/lex"
	"trefoil/load"
	"trefoil/typ"
)

func tvar(s string) api.Type { return api.Type{Kind: api.TVar, S: s} }
func tcon(s string, args ...api.Type) api.Type {
	return api.Type{Kind: api.TCon, S: s, Args: args}
}
func tas(s string, arg api.Type) api.Type {
	return api.Type{Kind: api.TAs, S: s, Args: []api.Type{arg}}
}
func tobj(open bool, labels string, args ...api.Type) api.Type {
	return api.Type{Kind: api.TObj, Open: open, Labels: strings.Fields(labels), Args: args}
}

var (
	longest = strings.Repeat("w", api.MaxName)
	tooLong = longest + "w"

	tint, tbool = tcon("int"), tcon("bool")
	tooDeep     = deepType(api.MaxDeep+1, tint)
	twice       = tcon("*", tas("a", tint), tas("a", tint))
	itself      = tas("a", tvar("a"))

	v                = api.Node{Kind: api.NVar}
	integer, boolean = con("int"), con("bool")
)

func con(name string, args ...int) api.Node {
	return api.Node{Kind: api.NCon, Name: name, Args: args}
}
func arrow(a, b int) api.Node { return con("->", a, b) }
func times(a, b int) api.Node { return con("*", a, b) }
func shut(labels string, args ...int) api.Node {
	return api.Node{Kind: api.NObj, Labels: strings.Fields(labels), Args: args}
}
func open(labels string, args ...int) api.Node {
	n := shut(labels, args...)
	n.Open = true
	return n
}
func nodes(list ...api.Node) api.Graph { return api.Graph{N: list} }

// deepType is a type of so many levels, that of part being one of them.
func deepType(levels int, part api.Type) api.Type {
	for range levels - 1 {
		part = tcon("->", part, tcon("int"))
	}
	return part
}

// written is the type that a text is.
func written(t *testing.T, text string) api.Type {
	t.Helper()
	l, at, e := lex.Lex(text)
	if e != api.OK {
		t.Fatalf("Lex(%.80q): %d at %d", text, e, at)
	}
	x, behind, e := typ.Parse(l, 0)
	if e != api.OK || behind != len(l)-1 {
		t.Fatalf("Parse(%.80q): %d at %d", text, e, behind)
	}
	return x
}

// sameNodes says whether two graphs are told alike, node by node (nil and empty are one).
func sameNodes(g, h api.Graph) bool {
	return g.Root == h.Root && slices.EqualFunc(g.N, h.N, func(x, y api.Node) bool {
		return x.Kind == y.Kind && x.Name == y.Name && x.Open == y.Open && slices.Equal(x.Args, y.Args) && slices.Equal(x.Labels, y.Labels)
	})
}

// wantGraph holds a type, and its text, to a graph.
func wantGraph(t *testing.T, text string, want api.Graph) {
	t.Helper()
	if got, e := load.Load(written(t, text)); e != api.OK || !sameNodes(got, want) {
		t.Errorf("Load(%.200q) = %v, %d, want %v", text, got, e, want)
	}
	for _, text := range []string{text, "(" + text + ")", " (* a note *)\n" + text + "\t"} {
		if got, e := load.Read(text); e != api.OK || !sameNodes(got, want) {
			t.Errorf("Read(%.200q) = %v, %d, want %v", text, got, e, want)
		}
	}
}

// wantRefused holds a type to an error.
func wantRefused(t *testing.T, x api.Type, want api.Errno) {
	t.Helper()
	if g, e := load.Load(x); e != want || len(g.N) != 0 || g.Root != 0 {
		t.Errorf("Load(%.200v) = %v, %d, want %d", x, g, e, want)
	}
}

// wantUnread holds a text to an error.
func wantUnread(t *testing.T, text string, want api.Errno) {
	t.Helper()
	if g, e := load.Read(text); e != want || len(g.N) != 0 || g.Root != 0 {
		t.Errorf("Read(%.200q) = %v, %d, want %d", text, g, e, want)
	}
}

var loads = []struct {
	text string
	want api.Graph
}{
	{"int", nodes(integer)}, {"bool", nodes(boolean)}, {"string", nodes(con("string"))}, {"unit", nodes(con("unit"))}, {"'a", nodes(v)}, {"'let", nodes(v)}, {"'int", nodes(v)}, {"'" + longest, nodes(v)},
	{"< >", nodes(shut(""))}, {"< .. >", nodes(open(""))}, {"< m : int >", nodes(shut("m", 1), integer)}, {"< m : 'a ; .. >", nodes(open("m", 1), v)}, {"< n : int ; m : bool >", nodes(shut("m n", 1, 2), boolean, integer)},
	// A node for each TCon and TObj, alike or not; one for each name, wherever it stands.
	{"int -> int", nodes(arrow(1, 2), integer, integer)}, {"< > * < >", nodes(times(1, 2), shut(""), shut(""))}, {"< .. > * < .. >", nodes(times(1, 2), open(""), open(""))},
	{"'a -> 'b", nodes(arrow(1, 2), v, v)}, {"'a -> 'a", nodes(arrow(1, 1), v)}, {"'a -> 'b -> 'a", nodes(arrow(1, 2), v, arrow(3, 1), v)}, {"('a -> 'b) -> 'b * 'a", nodes(arrow(1, 4), arrow(2, 3), v, v, times(3, 2))},
	{"< m : 'm ; n : < m : 'm ; n : 'n > >", nodes(shut("m n", 1, 2), v, shut("m n", 1, 3), v)},
	// An as is what it binds, and no node.
	{"int as 'a", nodes(integer)}, {"int as 'a as 'b", nodes(integer)}, {"'a as 'b", nodes(v)}, {"'a as 'b as 'let", nodes(v)}, {"(int as 'a) -> (int as 'b)", nodes(arrow(1, 2), integer, integer)},
	{"('a as 'b) -> 'b", nodes(arrow(1, 1), v)}, {"('a as 'b) -> 'a", nodes(arrow(1, 1), v)}, {"'b -> ('a as 'b)", nodes(arrow(1, 1), v)}, {"(< .. > as 'a) * 'a", nodes(times(1, 1), open(""))}, {"'a * (int as 'a)", nodes(times(1, 1), integer)},
	// What goes round; the chapter's example ahead.
	{"< m : 'a > as 'a", nodes(shut("m", 0))}, {"< m : 'a ; .. > as 'a", nodes(open("m", 0))}, {"'a -> 'b as 'b", nodes(arrow(1, 0), v)}, {"'a -> 'b as 'a", nodes(arrow(0, 1), v)}, {"'a * 'a as 'a", nodes(times(0, 0))},
	{"< m : 'a > as 'a as 'b", nodes(shut("m", 0))}, {"< m : 'b > as 'a as 'b", nodes(shut("m", 0))}, {"< m : 'a ; n : 'b > as 'a as 'b", nodes(shut("m n", 0, 0))}, {"int -> (bool -> 'a as 'b) as 'a", nodes(arrow(1, 2), integer, arrow(3, 0), boolean)},
	// A name means one thing in all of the type, outside of its as, too.
	{"('a -> int as 'a) * 'a", nodes(times(1, 1), arrow(1, 2), integer)}, {"'a * ('a -> int as 'a)", nodes(times(1, 1), arrow(1, 2), integer)}, {"(< m : 'b > as 'a) * (< n : 'a > as 'b)", nodes(times(1, 2), shut("m", 2), shut("n", 1))},
	// What an as binds may be a name that another one binds.
	{"('a as 'b) * (int as 'a)", nodes(times(1, 1), integer)}, {"(int as 'a) * ('a as 'b) * 'b", nodes(times(1, 2), integer, times(1, 1))}, {"('b as 'a) * ('c as 'b) * (int as 'c)", nodes(times(1, 2), integer, times(1, 1))},
	{"< a : ('x as 'y) ; b : 'y -> 'z ; c : (bool as 'x) ; d : 'z >", nodes(shut("a b c d", 1, 2, 1, 3), boolean, arrow(1, 3), v)}, {"('b as 'a) * ('a -> 'c as 'b)", nodes(times(1, 1), arrow(1, 2), v)},
	// Nodes stand as the graph leads to them, and not as the type is written.
	{"('a * int) * (< m : bool > as 'a)", nodes(times(1, 2), times(2, 4), shut("m", 3), boolean, integer)}, {"'a -> 'b -> (bool as 'b) -> (int as 'a)", nodes(arrow(1, 2), integer, arrow(3, 4), boolean, arrow(3, 1))},
	{"< a : 'z ; b : 'y ; c : (< m : 'y ; n : 'x > as 'z) >", nodes(shut("a b c", 1, 2, 1), shut("m n", 2, 3), v, v)},
}

// P7.1, P7.2
func TestLoad(t *testing.T) {
	for _, x := range loads {
		wantGraph(t, x.text, x.want)
		if e := graph.Check(x.want); e != api.OK || !sameNodes(graph.Trim(x.want), x.want) {
			t.Fatalf("%v isn't in order: %d", x.want, e)
		}
	}
}

// P7.1: parts whose lists are one list are parts of their own.
func TestLoadOfSharedLists(t *testing.T) {
	x := tcon("*", tint, tbool)
	want := nodes(arrow(1, 4), times(2, 3), integer, boolean, times(5, 6), integer, boolean)
	if g, e := load.Load(tcon("->", x, x)); e != api.OK || !sameNodes(g, want) {
		t.Errorf("%v, %d, want %v", g, e, want)
	}
	x = tobj(true, "m n", tvar("a"), tas("b", x))
	wantRefused(t, tcon("->", x, x), api.ErrForm)
}

// P7.1: two as of one name; what is nothing but itself, by one name or by more.
var refused = []string{
	"(int as 'a) * (int as 'a)", "(int as 'a) * (bool as 'a)", "int as 'a as 'a", "< m : 'a > as 'a as 'a", "(< m : 'a > as 'a) * (< m : 'a > as 'a)", "< m : (int as 'a) > as 'a", "('b as 'a) * ('c as 'a)", "(int as 'a) -> (int as 'b) -> 'c -> (int as 'a)", "('a as 'b) -> ('a as 'b)",
	"'a as 'a", "'a as 'b as 'a", "'a as 'b as 'c as 'a", "('b as 'a) * ('a as 'b)", "('a as 'b) * ('b as 'a)", "('b as 'a) -> ('c as 'b) -> ('a as 'c)", "('c as 'b) -> ('a as 'c) -> ('b as 'a)", "('a as 'b as 'c) * ('c as 'a)",
	"int -> < m : ('a as 'a) >", "('a as 'a) -> 'b", "< m : ('a as 'a) ; n : (int as 'b) ; .. > as 'c", "'a as 'a as 'c", "'c * ('a as 'a as 'c)", "('a as 'c) * ('a as 'a)", "('b as 'c) * ('a as 'b) * ('b as 'a)",
	"('a as 'a) -> (int as 'a)", "(int as 'a) -> ('a as 'a)", "('a as 'b) -> ('b as 'a) -> (int as 'b)", "'let as 'let", "'" + longest + " as '" + longest,
}

func TestLoadRefuses(t *testing.T) {
	for _, text := range refused {
		wantRefused(t, written(t, text), api.ErrForm)
		wantUnread(t, text, api.ErrForm)
	}
}

// badTypes are types that may not be.
func badTypes() []api.Type {
	list := []api.Type{
		{}, {Kind: 5}, {Kind: -1}, {Kind: math.MaxInt}, {Kind: math.MinInt, S: "a"}, tvar(""), tvar("A"), tvar("'a"), tvar(tooLong), {Kind: api.TVar, S: "a", Open: true}, {Kind: api.TVar, S: "a", Args: []api.Type{tint}}, {Kind: api.TVar, S: "a", Labels: []string{"m"}},
		tcon(""), tcon("x"), tcon("list"), tcon("->"), tcon("->", tint), tcon("*", tint, tint, tint), tcon("int", tint), {Kind: api.TCon, S: "int", Open: true}, {Kind: api.TCon, S: "int", Labels: []string{"m"}},
		tobj(false, "m"), tobj(true, "", tint), tobj(false, "b a", tint, tint), tobj(false, "a a", tint, tint), tobj(true, "let", tint), tobj(false, "A", tint), {Kind: api.TObj, S: "a"},
		{Kind: api.TAs, S: "a"}, {Kind: api.TAs, Args: []api.Type{tint}}, tas("", tint), tas("A", tint), {Kind: api.TAs, S: "a", Args: []api.Type{tint, tint}}, {Kind: api.TAs, S: "a", Args: []api.Type{tint}, Open: true},
	}
	for _, bad := range slices.Clone(list) {
		list = append(list, tcon("->", tvar("a"), bad), tobj(true, "m n", bad, tvar("a")), tas("b", bad), tcon("*", itself, bad), tcon("*", bad, twice), tcon("*", tooDeep, bad), tcon("*", bad, tooDeep), deepType(2*api.MaxDeep, bad))
	}
	return list
}

// P7.1: layer 2's errors come first.
func TestLoadOfWhatMayNotBe(t *testing.T) {
	for _, bad := range badTypes() {
		wantRefused(t, bad, api.ErrArg)
		if got := load.Names(bad); len(got) != 0 {
			t.Errorf("Names(%.200v) = %v", bad, got)
		}
	}
	for _, deep := range []api.Type{tooDeep, deepType(api.MaxDeep+1, tvar("a")), tas("a", deepType(api.MaxDeep, tvar("a"))), tcon("*", itself, tooDeep), tcon("->", tooDeep, twice), deepType(api.MaxDeep, itself), deepType(5000, itself), tobj(false, "m n", deepType(api.MaxDeep, tint), tvar("a"))} {
		wantRefused(t, deep, api.ErrDeep)
		if got := load.Names(deep); len(got) != 0 {
			t.Errorf("Names(%.200v) = %v", deep, got)
		}
	}
}

// named is a type with so many as behind it, of names that differ.
func named(times int, x api.Type) api.Type {
	for i := range times {
		x = tas("n"+strconv.Itoa(i), x)
	}
	return x
}

// P7.1: types as deep as they may be, and deeper.
func TestLoadDeep(t *testing.T) {
	g, e := load.Load(deepType(api.MaxDeep, tvar("a")))
	if e != api.OK || len(g.N) != 2*api.MaxDeep-1 || g.N[api.MaxDeep-1].Kind != api.NVar || g.N[0].Args[1] != 2*api.MaxDeep-2 {
		t.Errorf("%v, %d", g, e)
	}
	if g, e := load.Load(named(api.MaxDeep-1, tint)); e != api.OK || !sameNodes(g, nodes(integer)) {
		t.Errorf("%v, %d", g, e)
	}
	wantRefused(t, named(api.MaxDeep, tint), api.ErrDeep)
	wantRefused(t, named(api.MaxDeep-1, tvar("n0")), api.ErrForm)
	wantRefused(t, named(api.MaxDeep-1, tvar("n"+strconv.Itoa(api.MaxDeep-2))), api.ErrForm)
	wantRefused(t, deepType(api.MaxDeep-1, itself), api.ErrForm)
	wantRefused(t, deepType(api.MaxDeep, itself), api.ErrDeep)
	if got := load.Names(deepType(api.MaxDeep, tvar("a"))); !slices.Equal(got, []string{"a"}) {
		t.Errorf("%v", got)
	}
}

// P7.1: variables, from the left, each once; none that an as binds, wherever that stands.
func TestNames(t *testing.T) {
	for text, want := range map[string]string{
		"int": "", "'a": "a", "'let": "let", "< >": "", "< .. >": "", "'b -> 'a": "b a", "'b -> 'a -> 'b * 'c * 'a": "b a c", "('b * 'a -> 'a) -> 'c": "b a c", "< n : 'b ; m : 'a ; .. >": "a b", "< b : 'x ; a : < c : 'z ; b : 'y > >": "y z x",
		"int as 'a": "", "'a as 'b": "a", "'b as 'a": "b", "'a as 'c as 'b": "a", "< m : 'a > as 'a": "", "'a -> 'b as 'a": "b", "'a * ('b as 'a)": "b", "('b as 'a) * 'a": "b", "'c -> 'a -> ('b -> 'a as 'c)": "a b", "('b as 'a) * ('c as 'b)": "c", "'d * ('b as 'a) * 'a * ('c as 'b)": "d c",
		// What Load refuses.
		"'a as 'a": "", "'a as 'b as 'a": "", "('a as 'b) * ('b as 'a) * 'c": "c", "'d -> (int as 'a) * (int as 'a) * 'c": "d c", "('c as 'a) * ('b as 'a) * 'c": "c b", "'a -> 'b as 'a as 'a": "b",
	} {
		if got := load.Names(written(t, text)); !slices.Equal(got, strings.Fields(want)) {
			t.Errorf("Names(%q) = %q, want %q", text, got, want)
		}
	}
}

// P7.2: errors of layers 1 and 3; something that is left.
func TestReadRefuses(t *testing.T) {
	long := strings.Repeat(" ", api.MaxText-3)
	wantGraph(t, "int", nodes(integer))
	if g, e := load.Read(long + "int"); e != api.OK || !sameNodes(g, nodes(integer)) {
		t.Errorf("%v, %d", g, e)
	}
	for _, text := range []string{long + "int ", long + "'a as 'a", strings.Repeat("@", api.MaxText+1)} {
		wantUnread(t, text, api.ErrLong)
	}
	for _, text := range []string{"@", "int @", "int int ?", "-> @", "'a as '", "'A", "'" + tooLong, "< m : " + tooLong + " >", "int (* a note", "\"int", "99999999999999999999", "'a as 'a \x00", strings.Repeat("int -> ", api.MaxDeep) + "int é"} {
		wantUnread(t, text, api.ErrLex)
	}
	for _, text := range []string{"", " ", "(* *)", "x", "1", "let", "()", "int ->", "int as", "(int", "< m : int", "< m : int ; m : int >", "-> int", strings.Repeat("int -> ", api.MaxDeep) + "x"} {
		wantUnread(t, text, api.ErrForm)
	}
	for _, left := range []string{"int", "'a", ")", ">", ";", "..", "x", "1", "\"\"", "(", "<", "=", "end", "(* *) )"} {
		wantUnread(t, "int "+left, api.ErrForm)
		wantUnread(t, "'a as 'a "+left, api.ErrForm)
		// A type that is too deep is told ahead of what is left.
		wantUnread(t, strings.Repeat("int -> ", api.MaxDeep)+"int "+left, api.ErrDeep)
	}
	wantUnread(t, strings.Repeat("int -> ", api.MaxDeep)+"int", api.ErrDeep)
	wantUnread(t, strings.Repeat("int -> ", api.MaxDeep)+"('a as 'a)", api.ErrDeep)
	wantUnread(t, strings.Repeat("int -> ", api.MaxDeep-2)+"('a as 'a)", api.ErrForm)
	if g, e := load.Read(strings.Repeat("int -> ", api.MaxDeep-1) + "int"); e != api.OK || len(g.N) != 2*api.MaxDeep-1 {
		t.Errorf("%v, %d", g, e)
	}
}
