package env_test

import (
	"fmt"
	"math"
	"slices"
	"strconv"
	"strings"
	"testing"

	"trefoil/api"
	"trefoil/canon"
	"trefoil/env"
	"trefoil/load"
)

var (
	longest = strings.Repeat("a", api.MaxName)
	v       = api.Node{Kind: api.NVar}
	integer = con("int")
)

func con(name string, args ...int) api.Node {
	return api.Node{Kind: api.NCon, Name: name, Args: args}
}
func arrow(a, b int) api.Node { return con("->", a, b) }
func times(a, b int) api.Node { return con("*", a, b) }
func shut(labels string, args ...int) api.Node {
	return api.Node{Kind: api.NObj, Labels: strings.Fields(labels), Args: args}
}
func open(labels string, args ...int) api.Node {
	n := shut(labels, args...)
	n.Open = true
	return n
}
func rooted(root int, nodes ...api.Node) api.Graph { return api.Graph{N: nodes, Root: root} }
func nodes(list ...api.Node) api.Graph             { return rooted(0, list...) }

// class is one of a graph; Concrete and Virtual are told with blanks between.
func class(params int, g api.Graph, concrete, virtual string) env.Class {
	return env.Class{Params: params, G: g, Concrete: strings.Fields(concrete), Virtual: strings.Fields(virtual)}
}

// read is a type's graph.
func read(t *testing.T, text string) api.Graph {
	t.Helper()
	g, e := load.Read(text)
	if e != api.OK {
		t.Fatalf("Read(%s): %d", text, e)
	}
	return g
}

// sameNodes says whether two graphs are told alike, node by node (nil and empty are one).
func sameNodes(g, h api.Graph) bool {
	return g.Root == h.Root && slices.EqualFunc(g.N, h.N, func(x, y api.Node) bool {
		return x.Kind == y.Kind && x.Name == y.Name && x.Open == y.Open && slices.Equal(x.Args, y.Args) && slices.Equal(x.Labels, y.Labels)
	})
}

func sameClass(c, d env.Class) bool {
	return c.Params == d.Params && sameNodes(c.G, d.G) && slices.Equal(c.Concrete, d.Concrete) && slices.Equal(c.Virtual, d.Virtual)
}

// brief is the beginning of what a thing is told as.
func brief(x any) string {
	text := fmt.Sprint(x)
	return text[:min(len(text), 300)]
}

// wantValue holds a value's name to its type; of ErrNone and ErrNil to none.
func wantValue(t *testing.T, e *env.Env, name string, want api.Graph, err api.Errno) {
	t.Helper()
	if got, f := e.Value(name); f != err || !sameNodes(got, want) {
		t.Errorf("Value(%s) = %s, %d, want %s, %d", brief(name), brief(got), f, brief(want), err)
	}
}

// wantClass holds a class's name to its type; of ErrNone and ErrNil to none.
func wantClass(t *testing.T, e *env.Env, name string, want env.Class, err api.Errno) {
	t.Helper()
	if got, f := e.Class(name); f != err || !sameClass(got, want) {
		t.Errorf("Class(%s) = %s, %d, want %s, %d", brief(name), brief(got), f, brief(want), err)
	}
}

// wantNames holds an Env to its names, told with blanks between.
func wantNames(t *testing.T, e *env.Env, values, classes string) {
	t.Helper()
	if got := e.Values(); !slices.Equal(got, strings.Fields(values)) {
		t.Errorf("Values() = %s, want %s", brief(got), brief(values))
	}
	if got := e.Classes(); !slices.Equal(got, strings.Fields(classes)) {
		t.Errorf("Classes() = %s, want %s", brief(got), brief(classes))
	}
}

// withValue is an Env in which a name means a type.
func withValue(t *testing.T, e *env.Env, name string, g api.Graph) *env.Env {
	t.Helper()
	got, err := e.WithValue(name, g)
	if err != api.OK || got == nil {
		t.Fatalf("WithValue(%s, %s): %v, %d", name, brief(g), got, err)
	}
	return got
}

// withClass is an Env in which a name means a class.
func withClass(t *testing.T, e *env.Env, name string, c env.Class) *env.Env {
	t.Helper()
	got, err := e.WithClass(name, c)
	if err != api.OK || got == nil {
		t.Fatalf("WithClass(%s, %s): %v, %d", name, brief(c), got, err)
	}
	return got
}

// wantChecked holds a class to an error, and to its fields, told with blanks between.
func wantChecked(t *testing.T, c env.Class, err api.Errno, fields string) {
	t.Helper()
	if got := env.CheckClass(c); got != err {
		t.Errorf("CheckClass(%s) = %d, want %d", brief(c), got, err)
	}
	if got := env.Fields(c); !slices.Equal(got, strings.Fields(fields)) {
		t.Errorf("Fields(%s) = %s, want %s", brief(c), brief(got), fields)
	}
}

// Classes as they are written: how many parameters, the graph, Concrete, Virtual, the fields.
var goodClasses = []struct {
	params                          int
	text, concrete, virtual, fields string
}{
	{0, "< > * < >", "", "", ""}, {0, "< > * < .. >", "", "", ""}, {0, "< > * < m : int ; .. >", "m", "", ""}, {0, "< > * < m : int >", "m", "", ""}, {0, "< > * < m : int ; .. >", "", "m", ""},
	// Example 5 and 7 of the whole.
	{1, "'a -> < v : 'a > * < get : 'a ; .. >", "get", "", "v"}, {0, "< v : bool > * < get : bool ; .. >", "get", "", "v"},
	// Labels in either list, and in turns.
	{0, "< > * < a : int ; b : 'a ; c : bool >", "a b c", "", ""}, {0, "< > * < a : int ; b : 'a ; c : bool >", "", "a b c", ""}, {0, "< > * < a : int ; b : 'a ; c : bool >", "a c", "b", ""}, {0, "< > * < a : int ; b : 'a ; c : bool ; .. >", "b", "a c", ""}, {0, "< > * < a : int ; b : 'a ; c : bool >", "c", "a b", ""},
	// Fields are no methods: a name may be both; fields are told in order, whatever their types.
	{0, "< m : int > * < m : bool ; .. >", "m", "", "m"}, {0, "< z : int ; a : 'a ; m : 'a -> 'b > * < .. >", "", "", "a m z"}, {2, "< x : int > -> < y : int ; .. > -> < f : int ; g : int > * < h : int >", "h", "", "f g"},
	// Parameters of any types; the object itself, the fields, and all of it, may go round.
	{3, "int -> ('a -> 'b) -> 'b * 'a -> < > * < .. >", "", "", ""}, {0, "< v : 'a > * < me : 'a ; .. > as 'b", "me", "", "v"}, {0, "< v : 'a > * (< me : 'a ; .. > as 'a)", "me", "", "v"}, {1, "('c -> (< v : 'a > as 'a) * < m : 'c ; n : 'b > as 'b)", "m", "n", "v"}, {1, "('a -> < v : 'a > * < me : 'a ; .. > as 'a)", "me", "", "v"},
}

// P14.1
func TestGoodClasses(t *testing.T) {
	for _, x := range goodClasses {
		wantChecked(t, class(x.params, read(t, x.text), x.concrete, x.virtual), api.OK, x.fields)
	}
	wantChecked(t, env.Class{G: read(t, "< > * < >"), Concrete: []string{}, Virtual: []string{}}, api.OK, "")
	// Root is any node; one node may be the fields, and the object itself, and a parameter; what Root doesn't reach is nothing to it.
	wantChecked(t, class(1, rooted(3, v, shut("m", 3), times(1, 1), arrow(1, 2)), "m", ""), api.OK, "m")
	wantChecked(t, class(0, rooted(2, open("x y", 0, 0), shut("v", 2), times(1, 0), arrow(0, 2)), "x", "y"), api.OK, "v")
	wantChecked(t, class(0, nodes(times(1, 2), shut(longest, 0), open(longest, 0)), longest, ""), api.OK, longest)
}

// P14.1: a class that may be, with another count of parameters, may not be.
func TestParams(t *testing.T) {
	for _, x := range goodClasses {
		for _, params := range []int{math.MinInt, -1, 0, 1, 2, 3, 4, 100, 101, math.MaxInt} {
			if params != x.params {
				wantChecked(t, class(params, read(t, x.text), x.concrete, x.virtual), api.ErrArg, "")
			}
		}
	}
	for params := range 104 {
		g := nodes(times(1, 2), shut("v", 3), open("m", 3), integer)
		for range params {
			g.N = append(g.N, arrow(3, g.Root))
			g.Root = len(g.N) - 1
		}
		for i := params - 2; i <= params+2; i++ {
			if i == params && i <= 100 {
				wantChecked(t, class(i, g, "m", ""), api.OK, "v")
			} else {
				wantChecked(t, class(i, g, "m", ""), api.ErrArg, "")
			}
		}
	}
}

// P14.1: no class's type.
func TestBadClasses(t *testing.T) {
	for _, x := range []struct {
		params                  int
		text, concrete, virtual string
	}{
		// No NCon * behind the parameters; or no objects in it.
		{0, "int", "", ""}, {0, "'a", "", ""}, {0, "< >", "", ""}, {0, "< .. >", "", ""}, {0, "< m : int >", "m", ""}, {0, "int -> int", "", ""}, {1, "int -> int", "", ""}, {1, "int -> 'a", "", ""}, {1, "int -> < > -> < >", "", ""}, {1, "(int -> < > * < >) -> int", "", ""}, {1, "(< > * < >) * (< > * < >)", "", ""}, {1, "(int * (< > * < >))", "", ""}, {0, "int * < >", "", ""}, {0, "'a * < >", "", ""}, {0, "< > * int", "", ""}, {0, "< > * 'a", "", ""}, {0, "< > * (int -> < >)", "", ""}, {0, "< > * < > * < >", "", ""}, {0, "(< > * < >) * < >", "", ""}, {1, "int -> < > * 'a", "", ""}, {2, "int -> int * (< > * < >)", "", ""},
		// Open fields.
		{0, "< .. > * < >", "", ""}, {0, "< v : int ; .. > * < >", "", ""}, {0, "< v : int ; .. > * < m : int ; .. >", "m", ""}, {1, "int -> < .. > * < .. >", "", ""},
		// Labels in no list, in both, names without a label; the fields' labels are none of it.
		{0, "< > * < m : int >", "", ""}, {0, "< > * < m : int >", "m", "m"}, {0, "< > * < m : int >", "n", ""}, {0, "< > * < m : int >", "m n", ""}, {0, "< > * < m : int >", "a m", ""}, {0, "< > * < m : int >", "m", "n"}, {0, "< > * < m : int >", "m", "a"}, {0, "< > * < m : int >", "", "m n"}, {0, "< > * < .. >", "m", ""}, {0, "< > * < .. >", "", "m"}, {0, "< m : int > * < .. >", "m", ""}, {0, "< m : int > * < >", "", "m"}, {0, "< > * < a : int ; b : int >", "a", ""}, {0, "< > * < a : int ; b : int >", "", "b"}, {0, "< > * < a : int ; b : int ; c : int ; .. >", "a", "c"}, {0, "< > * < a : int ; b : int ; c : int ; .. >", "a b", "b c"},
		// Lists that don't rise.
		{0, "< > * < m : int >", "m m", ""}, {0, "< > * < m : int >", "", "m m"}, {0, "< > * < a : int ; b : int >", "b a", ""}, {0, "< > * < a : int ; b : int >", "", "b a"}, {0, "< > * < a : int ; b : int >", "a b b", ""}, {0, "< > * < a : int ; b : int >", "a a b", ""}, {0, "< > * < a : int ; b : int ; c : int >", "c a", "b"}, {0, "< > * < a : int ; b : int ; c : int >", "b", "c a"},
		// Names that are none.
		{0, "< > * < m : int >", "m end", ""}, {0, "< > * < m : int >", "M m", ""}, {0, "< > * < m : int >", "m", longest + "a"}, {0, "< > * < .. >", "let", ""}, {0, "< > * < .. >", "", "1"},
	} {
		wantChecked(t, class(x.params, read(t, x.text), x.concrete, x.virtual), api.ErrArg, "")
	}
	for _, bad := range []string{"", " ", "m ", "é", "\x00", "m\xff"} {
		for _, list := range [][]string{{bad}, {bad, "m"}, {"m", bad}, {"m", bad, bad}} {
			wantChecked(t, env.Class{G: read(t, "< > * < m : int >"), Concrete: list}, api.ErrArg, "")
			wantChecked(t, env.Class{G: read(t, "< > * < m : int >"), Virtual: list}, api.ErrArg, "")
			wantChecked(t, env.Class{G: read(t, "< > * < m : int >"), Concrete: []string{"m"}, Virtual: list}, api.ErrArg, "")
		}
	}
	// Parameters that go round have no end; nor do fields that are the whole.
	for params := range 103 {
		wantChecked(t, class(params, nodes(arrow(1, 0), integer), "", ""), api.ErrArg, "")
		wantChecked(t, class(params, nodes(arrow(1, 2), integer, arrow(0, 0)), "", ""), api.ErrArg, "")
		wantChecked(t, class(params, nodes(times(0, 1), open("")), "", ""), api.ErrArg, "")
		wantChecked(t, class(params, nodes(times(1, 0), shut("")), "", ""), api.ErrArg, "")
	}
}

// badGraphs are graphs that may not be, and layer 6's error of each. All but those that have no such Root or too many nodes are else a class's, without parameters and methods.
func badGraphs() []api.Graph {
	list := []api.Graph{{}, {N: []api.Node{}}, {Root: 1}}
	for _, root := range []int{-1, 3, api.MaxNodes, math.MinInt, math.MaxInt} {
		list = append(list, rooted(root, times(1, 2), shut(""), open("")))
	}
	for _, bad := range []api.Node{
		{}, {Kind: 4}, {Kind: -1}, {Kind: math.MaxInt}, {Kind: api.NVar, Name: "a"}, {Kind: api.NVar, Args: []int{0}}, {Kind: api.NVar, Open: true}, {Kind: api.NVar, Labels: []string{"m"}},
		con(""), con("x"), con("->"), con("*", 0), con("->", 0, 0, 0), con("int", 0), arrow(0, -1), times(4, 0), {Kind: api.NCon, Name: "int", Open: true}, {Kind: api.NCon, Name: "unit", Labels: []string{"m"}},
		{Kind: api.NObj, Name: "m"}, shut("m"), open("", 0), shut("m m", 0, 0), open("n m", 0, 0), shut("let", 0), open("A", 0), shut(longest+"a", 0), shut("m", 4), shut("m", -1), {Kind: api.NObj, Labels: []string{""}, Args: []int{0}},
	} {
		list = append(list, nodes(times(1, 2), shut(""), open(""), bad))
	}
	// The * is none, the fields or the object itself are none, a parameter is none.
	return append(list, nodes(api.Node{Kind: api.NVar, Name: "*", Args: []int{1, 2}}, shut(""), open("")), nodes(api.Node{Kind: api.NObj, Name: "*", Args: []int{1, 2}}, shut(""), open("")), nodes(con("*", 1), shut("")), nodes(con("*")), nodes(con("->")), nodes(times(1, 3), shut("")), nodes(times(1, 2), shut("v"), open("")), nodes(times(1, 2), shut(""), open("b a", 1, 1)))
}

// P14.1, P14.2: layer 6's error, and it is ahead of what a class's own is.
func TestBadGraphs(t *testing.T) {
	few := badGraphs()
	long := nodes(slices.Repeat([]api.Node{integer}, api.MaxNodes+1)...)
	long.Root = -1
	for i, g := range append(few, long) {
		want := api.ErrArg
		if i == len(few) {
			want = api.ErrLong
		}
		for _, c := range []env.Class{class(0, g, "", ""), class(1, g, "m", ""), class(-1, g, "b a", "let"), class(101, g, "", "a a")} {
			wantChecked(t, c, want, "")
			wantRefused(t, env.New(), "x", g, c, want, want)
			wantRefused(t, env.New(), "X", g, c, api.ErrArg, api.ErrArg)
		}
	}
	for _, params := range []int{-1, 1, 101} {
		wantRefused(t, env.New(), "x", read(t, "< > * < >"), class(params, read(t, "< > * < >"), "", ""), api.OK, api.ErrArg)
	}
	wantRefused(t, env.New(), "x", read(t, "int"), class(0, read(t, "int"), "", ""), api.OK, api.ErrArg)
	wantRefused(t, env.New(), "x", read(t, "int"), class(0, read(t, "< > * < m : int >"), "m", "m"), api.OK, api.ErrArg)
}

// wantRefused holds both calls that make an Env to errors, beside which there is none, and to leaving what was as it was.
func wantRefused(t *testing.T, e *env.Env, name string, g api.Graph, c env.Class, value, class api.Errno) {
	t.Helper()
	values, classes := e.Values(), e.Classes()
	if got, err := e.WithValue(name, g); err != value || (got != nil) != (err == api.OK) {
		t.Errorf("WithValue(%s, %s) = %v, %d, want %d", brief(name), brief(g), got, err, value)
	}
	if got, err := e.WithClass(name, c); err != class || (got != nil) != (err == api.OK) {
		t.Errorf("WithClass(%s, %s) = %v, %d, want %d", brief(name), brief(c), got, err, class)
	}
	wantNames(t, e, strings.Join(values, " "), strings.Join(classes, " "))
}

// P14.2: what is there from the start.
func TestStart(t *testing.T) {
	e := env.New()
	wantNames(t, e, "fst not snd", "")
	fst, snd := nodes(arrow(1, 2), times(2, 3), v, v), nodes(arrow(1, 3), times(2, 3), v, v)
	not := nodes(arrow(1, 1), con("bool"))
	wantValue(t, e, "fst", fst, api.OK)
	wantValue(t, e, "snd", snd, api.OK)
	wantValue(t, e, "not", not, api.OK)
	for _, name := range []string{"", "fs", "fst ", "fstt", "g", "nota", "a", "zzz", "Fst", "let", "int", longest, longest + "a", "\x00", "\xff"} {
		wantValue(t, e, name, api.Graph{}, api.ErrNone)
	}
	for _, name := range []string{"", "fst", "snd", "not", "object", "c"} {
		wantClass(t, e, name, env.Class{}, api.ErrNone)
	}
	// What is there from the start may mean something else; a new one doesn't know of it.
	f := withValue(t, e, "fst", read(t, "int"))
	wantValue(t, f, "fst", nodes(integer), api.OK)
	wantValue(t, f, "snd", snd, api.OK)
	wantNames(t, f, "fst not snd", "")
	wantValue(t, e, "fst", fst, api.OK)
	wantValue(t, env.New(), "fst", fst, api.OK)
}

// P14.2: a nil Env answers zero, and ErrNil, whatever else is wrong.
func TestNil(t *testing.T) {
	var e *env.Env
	c := class(0, read(t, "< > * < >"), "", "")
	for _, name := range []string{"fst", "x", "", "let"} {
		wantValue(t, e, name, api.Graph{}, api.ErrNil)
		wantClass(t, e, name, env.Class{}, api.ErrNil)
		wantRefused(t, e, name, c.G, c, api.ErrNil, api.ErrNil)
		wantRefused(t, e, name, api.Graph{}, env.Class{}, api.ErrNil, api.ErrNil)
	}
	wantNames(t, e, "", "")
}

// P14.2: what may be a name, and what may not.
func TestNames(t *testing.T) {
	c := class(1, read(t, "'a -> < v : 'a > * < get : 'a ; .. >"), "get", "")
	for _, name := range []string{"a", "_", "__", "x1", "aB_9", "int", "self", "lett", "le", longest} {
		e := withClass(t, withValue(t, env.New(), name, c.G), name, c)
		wantValue(t, e, name, c.G, api.OK)
		wantClass(t, e, name, c, api.OK)
		values := []string{"fst", "not", "snd", name}
		slices.Sort(values)
		wantNames(t, e, strings.Join(values, " "), name)
	}
	for _, name := range []string{"", " ", "A", "1", "9a", "a ", " a", "a b", "a-b", "'a", "a'", "é", "aé", "\x00", "a\xff", longest + "a", strings.Repeat("b", 1<<16), "and", "as", "class", "else", "end", "false", "fun", "if", "in", "inherit", "let", "method", "new", "object", "rec", "then", "true", "val", "virtual"} {
		e := env.New()
		wantRefused(t, e, name, c.G, c, api.ErrArg, api.ErrArg)
		wantRefused(t, e, name, api.Graph{}, env.Class{}, api.ErrArg, api.ErrArg)
		wantValue(t, e, name, api.Graph{}, api.ErrNone)
		wantClass(t, e, name, env.Class{}, api.ErrNone)
	}
}

// P14.2: values and classes are apart; what isn't told stays.
func TestApart(t *testing.T) {
	c := class(0, read(t, "< > * < m : int ; .. >"), "m", "")
	e := env.New()
	value := withValue(t, e, "x", read(t, "'a -> 'a"))
	both := withClass(t, value, "x", c)
	other := withClass(t, e, "x", c)
	wantNames(t, e, "fst not snd", "")
	wantNames(t, value, "fst not snd x", "")
	wantNames(t, both, "fst not snd x", "x")
	wantNames(t, other, "fst not snd", "x")
	wantClass(t, value, "x", env.Class{}, api.ErrNone)
	wantValue(t, other, "x", api.Graph{}, api.ErrNone)
	wantValue(t, both, "x", nodes(arrow(1, 1), v), api.OK)
	wantClass(t, both, "x", c, api.OK)
	// A class named as a value from the start leaves that as it is.
	fst, _ := e.Value("fst")
	named := withClass(t, e, "fst", c)
	wantValue(t, named, "fst", fst, api.OK)
	wantClass(t, named, "fst", c, api.OK)
	wantNames(t, named, "fst not snd", "fst")
}

// P14.2: a type is kept as its least graph, whatever it was told as.
func TestLeast(t *testing.T) {
	for _, x := range []struct{ told, want api.Graph }{
		{nodes(arrow(1, 2), integer, integer), nodes(arrow(1, 1), integer)},
		{rooted(2, v, v, arrow(3, 1), v, integer), nodes(arrow(1, 2), v, v)},
		{rooted(1, arrow(1, 0), arrow(0, 1)), nodes(arrow(0, 0))},
		{nodes(shut("m", 1), shut("m", 0)), nodes(shut("m", 0))},
		{rooted(3, integer, shut("a b", 0, 4), v, times(4, 1), integer), nodes(times(1, 2), integer, shut("a b", 1, 1))},
		{nodes(open("m", 1), open("m", 0)), nodes(open("m", 1), open("m", 0))},
		{rooted(1, integer, v), nodes(v)},
	} {
		wantValue(t, withValue(t, env.New(), "x", x.told), "x", x.want, api.OK)
	}
	// Of a class, too; what else is told of it stays.
	told := rooted(4, integer, integer, shut("v w", 0, 1), open("m n", 1, 0), arrow(0, 5), times(2, 3), v)
	want := nodes(arrow(1, 2), integer, times(3, 4), shut("v w", 1, 1), open("m n", 1, 1))
	wantClass(t, withClass(t, env.New(), "c", class(1, told, "m", "n")), "c", class(1, want, "m", "n"), api.OK)
	same := rooted(0, times(1, 2), shut("m", 3), shut("m", 4), integer, integer)
	wantClass(t, withClass(t, env.New(), "c", class(0, same, "", "m")), "c", class(0, nodes(times(1, 1), shut("m", 2), integer), "", "m"), api.OK)
	for _, x := range goodClasses {
		c := class(x.params, read(t, x.text), x.concrete, x.virtual)
		e := withClass(t, env.New(), "c", c)
		c.G = canon.Least(c.G)
		wantClass(t, e, "c", c, api.OK)
		wantChecked(t, c, api.OK, x.fields)
	}
}

// P14.3: the last meaning of a name counts; no Env changes, whatever is made of it.
func TestLast(t *testing.T) {
	texts := []string{"int", "bool", "'a", "'a -> 'a", "< m : int ; .. >"}
	made := []*env.Env{env.New()}
	for i, text := range texts {
		e := withValue(t, made[i], "x", read(t, text))
		c := class(0, read(t, "< v"+strconv.Itoa(i)+" : int > * < .. >"), "", "")
		made = append(made, withClass(t, e, "c", c))
	}
	// Others are made of each, that give other meanings.
	for i, e := range made {
		withValue(t, withValue(t, e, "x", read(t, "string")), "y", read(t, "unit"))
		withClass(t, e, "c", class(i, arrows(i), "", ""))
	}
	wantNames(t, made[0], "fst not snd", "")
	wantValue(t, made[0], "x", api.Graph{}, api.ErrNone)
	wantClass(t, made[0], "c", env.Class{}, api.ErrNone)
	for i, text := range texts {
		e := made[i+1]
		wantNames(t, e, "fst not snd x", "c")
		wantValue(t, e, "x", canon.Least(read(t, text)), api.OK)
		c, _ := e.Class("c")
		wantChecked(t, c, api.OK, "v"+strconv.Itoa(i))
	}
}

// arrows is the graph of a class of so many parameters, and of nothing else.
func arrows(params int) api.Graph {
	g := nodes(times(1, 2), shut(""), open(""))
	for range params {
		g.N = append(g.N, arrow(1, g.Root))
		g.Root = len(g.N) - 1
	}
	return g
}
