package name_test

import (
	"math/rand"
	"reflect"
	"slices"
	"strconv"
	"testing"

	"trefoil/api"
	"trefoil/canon"
	"trefoil/graph"
	"trefoil/lex"
	"trefoil/load"
	"trefoil/name"
	"trefoil/tree"
	"trefoil/typ"
)

// places is how often a node of a graph is an Arg, and one more, if it is Root.
func places(g api.Graph, at int) int {
	count := 0
	for _, n := range g.N {
		for _, arg := range n.Args {
			if arg == at {
				count++
			}
		}
	}
	if at == g.Root {
		count++
	}
	return count
}

// plainType tells a least graph's type in another way: names are told ahead of all else, by the nodes' order.
func plainType(g api.Graph) api.Type {
	named := map[int]string{}
	for _, at := range graph.Reach(g) {
		n := g.N[at]
		if n.Kind == api.NVar || places(g, at) >= 2 && (n.Open || len(n.Args) != 0) {
			named[at] = name.Name(len(named))
		}
	}
	told := map[int]bool{}
	var tell func(at int) api.Type
	tell = func(at int) api.Type {
		n := g.N[at]
		if n.Kind == api.NVar || told[at] {
			return tvar(named[at])
		}
		told[at] = named[at] != ""
		t := api.Type{Kind: map[int]int{api.NCon: api.TCon, api.NObj: api.TObj}[n.Kind], S: n.Name, Labels: n.Labels, Open: n.Open}
		for _, arg := range n.Args {
			t.Args = append(t.Args, tell(arg))
		}
		if named[at] != "" {
			return tas(named[at], t)
		}
		return t
	}
	return tell(g.Root)
}

// parts are how many parts of each sort a type has: all that stand once in a least graph, but names; and its TAs's.
func parts(t api.Type) (int, int) {
	whole, as := 0, 0
	switch {
	case t.Kind == api.TAs:
		as = 1
	case t.Kind != api.TVar && (len(t.Args) > 0 || t.Open):
		whole = 1
	}
	for _, x := range t.Args {
		w, a := parts(x)
		whole, as = whole+w, as+a
	}
	return whole, as
}

// wantLaws holds what is told of a graph to the plain telling, and to P10.3.
func wantLaws(t *testing.T, g api.Graph) {
	t.Helper()
	least := canon.Least(g)
	want := plainType(least)
	if e := tree.CheckType(want); e != api.OK {
		wantError(t, g, e)
		return
	}
	wantType(t, g, want)
	got, _ := name.Type(g)
	text, _ := name.Put(g)
	h, e := load.Read(text)
	if e != api.OK || !graph.Same(g, h) {
		t.Fatalf("Put(%v) = %s, which is read as %v, %d", g, text, h, e)
	}
	if again, e := name.Put(h); e != api.OK || again != text {
		t.Fatalf("Put(%v) = %s, and then %s, %d", g, text, again, e)
	}
	once, names := 0, 0
	for at, n := range least.N {
		if n.Kind != api.NVar && (len(n.Args) > 0 || n.Open) {
			once++
			if places(least, at) > 1 {
				names++
			}
		}
	}
	if whole, as := parts(got); whole != once || as != names {
		t.Fatalf("Type(%v) = %v: %d nodes and %d names, want %d and %d", g, got, whole, as, once, names)
	}
	if t.Failed() {
		t.FailNow()
	}
}

// wantPair holds two graphs to P10.3, and says whether they are the same type.
func wantPair(t *testing.T, g, h api.Graph) bool {
	t.Helper()
	same := graph.Same(g, h)
	one, e := name.Put(g)
	two, f := name.Put(h)
	x, _ := name.Type(g)
	y, _ := name.Type(h)
	if e == api.OK && f == api.OK && ((one == two) != same || tree.SameType(x, y) != same) {
		t.Fatalf("%v and %v: %s and %s", g, h, one, two)
	}
	if same && e != f {
		t.Fatalf("%v and %v: %d and %d", g, h, e, f)
	}
	return same
}

// nodesOf are the nodes that a graph of so many may have, of a few names and labels.
func nodesOf(size int) []api.Node {
	all := []api.Node{v, integer, shut(""), open("")}
	for i := range size {
		all = append(all, shut("m", i), open("m", i), shut("n", i))
		for j := range size {
			all = append(all, arrow(i, j), times(i, j), shut("m n", i, j))
		}
	}
	return all
}

// graphsOf are all graphs of so many nodes.
func graphsOf(size int) []api.Graph {
	all := []api.Graph{{}}
	for range size {
		var more []api.Graph
		for _, g := range all {
			for _, n := range nodesOf(size) {
				more = append(more, nodes(append(slices.Clone(g.N), n)...))
			}
		}
		all = more
	}
	return all
}

// P10.1 to P10.3: all graphs of up to three nodes.
func TestLawsOfAll(t *testing.T) {
	for size := 1; size <= 3; size++ {
		for i, g := range graphsOf(size) {
			g.Root = i % size
			wantLaws(t, g)
		}
	}
}

// P10.3: all graphs of one and two nodes, each with each.
func TestPairsOfAll(t *testing.T) {
	all := append(graphsOf(1), graphsOf(2)...)
	same := 0
	for _, g := range all {
		for _, h := range all {
			if wantPair(t, g, h) {
				same++
			}
		}
	}
	if same <= len(all) {
		t.Errorf("%d of %d are the same: they tell little", same, len(all)*len(all))
	}
}

// A maker makes graphs at random.
type maker struct{ *rand.Rand }

func (r maker) graph(size int, kinds []api.Node) api.Graph {
	g := api.Graph{Root: r.Intn(size)}
	for range size {
		n := kinds[r.Intn(len(kinds))]
		n.Args = slices.Clone(n.Args)
		for i := range n.Args {
			n.Args[i] = r.Intn(size)
		}
		g.N = append(g.N, n)
	}
	return g
}

// copied is a graph with some nodes more, which are as others are, and lead where those lead, or to others that are as these; free nodes have none such.
func (r maker) copied(g api.Graph) api.Graph {
	var h api.Graph
	var of []int // of each node of h the one of g that it is as
	like := make([][]int, len(g.N))
	for _, at := range append(r.Perm(len(g.N)), r.Perm(len(g.N))...) {
		if n := g.N[at]; len(like[at]) == 0 || n.Kind != api.NVar && !n.Open {
			like[at] = append(like[at], len(of))
			of = append(of, at)
		}
	}
	for _, at := range of {
		n := g.N[at]
		n.Args = slices.Clone(n.Args)
		for i, arg := range n.Args {
			n.Args[i] = like[arg][r.Intn(len(like[arg]))]
		}
		h.N = append(h.N, n)
	}
	h.Root = like[g.Root][r.Intn(len(like[g.Root]))]
	return h
}

// spoilt is a graph in which one node is another one, or one Arg leads elsewhere.
func (r maker) spoilt(g api.Graph) api.Graph {
	h := api.Graph{N: slices.Clone(g.N), Root: g.Root}
	at := r.Intn(len(h.N))
	n := &h.N[at]
	n.Args = slices.Clone(n.Args)
	if len(n.Args) > 0 && r.Intn(2) == 0 {
		n.Args[r.Intn(len(n.Args))] = r.Intn(len(h.N))
	} else {
		*n = r.graph(len(h.N), nodesOf(1)).N[at]
	}
	return h
}

// kinds are such nodes as may often be shared, and such as may be deep.
func kinds() [][]api.Node {
	return [][]api.Node{
		nodesOf(1),
		{arrow(0, 0), v}, {shut("m", 0), open("m", 0), arrow(0, 0)}, {arrow(0, 0), shut("m", 0), times(0, 0)}, {arrow(0, 0), arrow(0, 0), arrow(0, 0), integer, open("")},
		{times(0, 0), times(0, 0), open("")}, {times(0, 0), arrow(0, 0), times(0, 0), v, v}, {shut("a b c d", 0, 0, 0, 0), shut("a b c d", 0, 0, 0, 0), open("m", 0)},
	}
}

// P10.1 to P10.3: graphs at random, what is the same by its making, and what is nearly so.
func TestLawsAtRandom(t *testing.T) {
	r := maker{rand.New(rand.NewSource(1))}
	many := kinds()
	differ := 0
	for i := range 9000 {
		g := r.graph(1+r.Intn(14), many[i%len(many)])
		wantLaws(t, g)
		h := r.copied(g)
		if !wantPair(t, g, h) || !wantPair(t, r.copied(h), g) {
			t.Fatalf("%v is not %v", g, h)
		}
		for _, x := range []api.Graph{r.spoilt(h), r.spoilt(g), r.graph(1+r.Intn(14), many[i%len(many)])} {
			if !wantPair(t, g, x) {
				differ++
			}
		}
	}
	if differ < 9000 || differ > 26000 {
		t.Errorf("%d of 27000 differ: the graphs tell little", differ)
	}
}

// P10.1 to P10.3: greater graphs, of more names than there are letters; some are too deep.
func TestLawsOfGreater(t *testing.T) {
	r := maker{rand.New(rand.NewSource(2))}
	many := kinds()
	deep := 0
	for i := range 300 {
		g := r.graph(100+r.Intn(300), many[i%len(many)])
		wantLaws(t, g)
		if _, e := name.Type(g); e == api.ErrDeep {
			deep++
		}
	}
	if deep < 10 || deep > 200 {
		t.Errorf("%d of 300 are too deep: the graphs tell little", deep)
	}
}

// P1: no call panics, whatever it is given.
func TestOfAny(t *testing.T) {
	r := maker{rand.New(rand.NewSource(3))}
	of := nodesOf(3)
	for range 20000 {
		g := api.Graph{Root: r.Intn(6) - 1}
		for range r.Intn(6) {
			n := of[r.Intn(len(of))]
			if r.Intn(9) == 0 {
				n = api.Node{Kind: r.Intn(5), Args: []int{r.Intn(6) - 1}}
			}
			g.N = append(g.N, n)
		}
		if e := graph.Check(g); e == api.OK {
			wantLaws(t, g)
		} else {
			wantError(t, g, e)
		}
	}
	for range 20000 {
		n := int(r.Uint64())
		digits := ""
		if n >= 26 {
			digits = strconv.Itoa(n / 26)
		}
		if got := name.Name(n); n < 0 && got != "" || n >= 0 && got != string("abcdefghijklmnopqrstuvwxyz"[n%26])+digits {
			t.Fatalf("Name(%d) = %s", n, got)
		}
	}
}

// P10.1, P10.2: as many nodes as there may be, deep ones, and wide ones of very many names.
func TestOfMany(t *testing.T) {
	const most = api.MaxNodes
	wantError(t, chain(most, v), api.ErrDeep)
	wantError(t, chain(most, shut("n", most/2)), api.ErrDeep)
	wantType(t, chain(most, shut("m", 0)), tas("a", tobj(false, "m", tvar("a"))))
	const fields = most / 4
	wide := api.Node{Kind: api.NObj}
	g := api.Graph{N: make([]api.Node, 1, most)}
	want := api.Type{Kind: api.TObj}
	for i := range fields {
		label := "m" + strconv.Itoa(fields+i)
		wide.Labels, wide.Args = append(wide.Labels, label), append(wide.Args, len(g.N))
		n := len(g.N)
		first, second := name.Name(2*i), name.Name(2*i+1)
		g.N = append(g.N, times(n+1, n+1), open(label, n+2), v)
		want.Labels = append(want.Labels, label)
		want.Args = append(want.Args, tcon("*", tas(first, tobj(true, label, tvar(second))), tvar(first)))
	}
	g.N[0] = wide
	wantType(t, g, want)
	text, e := name.Put(g)
	tokens, _, f := lex.Lex(text)
	if e != api.OK || f != api.ErrLong || len(tokens) != 0 {
		t.Errorf("a text of %d bytes, %d, %d", len(text), e, f)
	}
}

// spared is a graph whose lists have spare room.
func spared(g api.Graph) api.Graph {
	h := api.Graph{N: append(make([]api.Node, 0, len(g.N)+2), g.N...), Root: g.Root}
	for i, n := range g.N {
		h.N[i].Args = append(append(make([]int, 0, 8), n.Args...), 77, 78)[:len(n.Args)]
		h.N[i].Labels = append(append(make([]string, 0, 8), n.Labels...), "spare", "room")[:len(n.Labels)]
	}
	return h
}

// whole is a graph with the spare room of its lists.
func whole(g api.Graph) api.Graph {
	h := api.Graph{N: slices.Clone(g.N[:cap(g.N)]), Root: g.Root}
	for i, n := range h.N {
		h.N[i].Args = slices.Clone(n.Args[:cap(n.Args)])
		h.N[i].Labels = slices.Clone(n.Labels[:cap(n.Labels)])
	}
	return h
}

// lists are all lists of a type, as pointers to where they begin, and whether one begins twice.
func lists(t api.Type, seen map[any]bool) bool {
	twice := false
	if cap(t.Labels) > 0 {
		at := &t.Labels[:cap(t.Labels)][cap(t.Labels)-1]
		twice, seen[at] = seen[at], true
	}
	if cap(t.Args) > 0 {
		at := &t.Args[:cap(t.Args)][cap(t.Args)-1]
		twice, seen[at] = twice || seen[at], true
	}
	for _, x := range t.Args {
		twice = lists(x, seen) || twice
	}
	return twice
}

// fill writes over all of a type, spare room, too.
func fill(t *api.Type) {
	labels, args := t.Labels[:cap(t.Labels)], t.Args[:cap(t.Args)]
	for i := range labels {
		labels[i] = "?"
	}
	for i := range args {
		fill(&args[i])
		args[i].Kind = -5
	}
}

// What is handed in is left as it is; what is answered is new memory, and no two lists of it share any (lists that share memory have one end, as they are made).
func TestMemory(t *testing.T) {
	r := maker{rand.New(rand.NewSource(5))}
	many := kinds()
	for i := range 3000 {
		g := r.graph(1+r.Intn(7), many[i%len(many)])
		want, e := name.Type(g)
		in := spared(g)
		was := whole(in)
		for range 2 {
			got, f := name.Type(in)
			if e != f || !tree.SameType(got, want) {
				t.Fatalf("Type(%v) = %v, %d, want %v, %d", g, got, f, want, e)
			}
			if lists(got, map[any]bool{}) {
				t.Fatalf("Type(%v) = %v: two lists share memory", g, got)
			}
			fill(&got)
			if text, _ := typ.Put(want); text == "" {
				t.Fatalf("%v has no text", want)
			}
		}
		if !reflect.DeepEqual(whole(in), was) {
			t.Fatalf("%v is changed to %v", was, whole(in))
		}
	}
}
