package gen_test

import (
	"math/rand"
	"reflect"
	"slices"
	"strconv"
	"testing"

	"trefoil/api"
	"trefoil/gen"
	"trefoil/graph"
)

func isFree(n api.Node) bool { return n.Kind == api.NVar || n.Open }

// leads tells of two nodes whether the one leads to the other one, or is it: by Warshall's way.
func leads(g api.Graph) [][]bool {
	table := make([][]bool, len(g.N))
	for i, n := range g.N {
		table[i] = make([]bool, len(g.N))
		table[i][i] = true
		for _, arg := range n.Args {
			table[i][arg] = true
		}
	}
	for k := range table {
		for i := range table {
			for j := range table {
				table[i][j] = table[i][j] || table[i][k] && table[k][j]
			}
		}
	}
	return table
}

// order are a graph's nodes in order, behind those that came before.
func order(g api.Graph, at int, before []int) []int {
	if slices.Contains(before, at) {
		return before
	}
	before = append(before, at)
	for _, arg := range g.N[at].Args {
		before = order(g, arg, before)
	}
	return before
}

// A plain tells the three answers of a graph in another way: by a table of what leads to what.
type plain struct {
	fixed, generic, general []int
	fresh                   api.Graph
}

func plainOf(g api.Graph, mono []int) plain {
	var p plain
	table := leads(g)
	for i, n := range g.N {
		held := slices.ContainsFunc(mono, func(m int) bool { return table[m][i] })
		switch {
		case isFree(n) && held:
			p.fixed = append(p.fixed, i)
		case isFree(n) && table[g.Root][i]:
			p.generic = append(p.generic, i)
		}
	}
	for _, i := range order(g, g.Root, nil) {
		if slices.ContainsFunc(p.generic, func(j int) bool { return table[i][j] }) {
			p.general = append(p.general, i)
		}
	}
	with := func(at int) int {
		if place := slices.Index(p.general, at); place >= 0 {
			return len(g.N) + place
		}
		return at
	}
	p.fresh = api.Graph{N: slices.Clone(g.N), Root: with(g.Root)}
	for _, i := range p.general {
		n := g.N[i]
		n.Args = nil
		for _, arg := range g.N[i].Args {
			n.Args = append(n.Args, with(arg))
		}
		p.fresh.N = append(p.fresh.N, n)
	}
	return p
}

// wantLaws holds a graph and monos of it to what they are in the plain way, and to P13.3; it answers how many nodes are copied.
func wantLaws(t *testing.T, g api.Graph, mono []int) int {
	t.Helper()
	p := plainOf(g, mono)
	wantFree(t, g, mono, p.fixed, p.generic)
	h, e := gen.Fresh(g, mono)
	if e != api.OK || !sameNodes(h, p.fresh) {
		t.Errorf("Fresh(%v, %v) = %v, %d, want %v", g, mono, h, e, p.fresh)
	}
	if graph.Check(h) != api.OK {
		t.Fatalf("Fresh(%v, %v) = %v may not be", g, mono, h)
	}
	size := len(g.N)
	if !sameNodes(rooted(g.Root, h.N[:size]...), g) {
		t.Errorf("Fresh(%v, %v) = %v: it has other nodes", g, mono, h)
	}
	// The same type without monos; with monos, too: each fixed node is its own match.
	if !graph.Same(g, h) {
		t.Errorf("Fresh(%v, %v) = %v: another type", g, mono, h)
	}
	if len(p.generic) == 0 && (h.Root != g.Root || len(h.N) != size) {
		t.Errorf("Fresh(%v, %v) = %v: copied", g, mono, h)
	}
	// The fixed nodes of both are one; the generic ones are apart, and as many.
	var common, was []int
	apart := 0
	for _, at := range graph.Free(h) {
		switch {
		case at >= size:
			apart++
		case slices.Contains(p.generic, at):
			t.Errorf("Fresh(%v, %v) = %v: %d in common", g, mono, h, at)
		default:
			common = append(common, at)
		}
	}
	for _, at := range graph.Free(g) {
		if slices.Contains(p.fixed, at) {
			was = append(was, at)
		}
	}
	if !slices.Equal(common, was) || apart != len(p.generic) {
		t.Errorf("Fresh(%v, %v) = %v: %v in common, %d apart", g, mono, h, common, apart)
	}
	if t.Failed() {
		t.FailNow()
	}
	return len(h.N) - size
}

// nodesOf are the nodes that a graph of so many may have, of a few names and labels.
func nodesOf(size int) []api.Node {
	all := []api.Node{v, integer, shut(""), open("")}
	for i := range size {
		all = append(all, shut("m", i), open("m", i))
		for j := range size {
			all = append(all, arrow(i, j), shut("m n", i, j), open("m n", i, j))
		}
	}
	return all
}

// graphsOf are all graphs of so many nodes.
func graphsOf(size int) []api.Graph {
	all := []api.Graph{{}}
	for range size {
		var more []api.Graph
		for _, g := range all {
			for _, n := range nodesOf(size) {
				more = append(more, nodes(append(slices.Clone(g.N), n)...))
			}
		}
		all = more
	}
	return all
}

// monosOf are all sets of so many nodes, in one order and in another.
func monosOf(size int) [][]int {
	list := [][]int{nil}
	for at := range size {
		for _, mono := range list[:len(list):len(list)] {
			list = append(list, append(slices.Clone(mono), at))
		}
	}
	for i := range list {
		if i%2 == 1 {
			slices.Reverse(list[i])
		}
	}
	return list
}

// P13.1 to P13.3: all graphs of one and two nodes, with each Root and all sets of monos; of three nodes, with some.
func TestLawsOfAll(t *testing.T) {
	for size := 1; size <= 3; size++ {
		monos := monosOf(size)
		for i, g := range graphsOf(size) {
			for j, mono := range monos {
				for root := range size {
					if g.Root = root; size < 3 || (i+j*size+root)%11 == 0 {
						wantLaws(t, g, mono)
					}
				}
			}
		}
	}
}

// A maker makes graphs at random.
type maker struct{ *rand.Rand }

func (r maker) graph(size int, kinds []api.Node) api.Graph {
	g := api.Graph{Root: r.Intn(size)}
	for range size {
		n := kinds[r.Intn(len(kinds))]
		n.Args = slices.Clone(n.Args)
		for i := range n.Args {
			n.Args[i] = r.Intn(size)
		}
		g.N = append(g.N, n)
	}
	return g
}

// tree is a graph whose nodes lead to later ones, but for a few.
func (r maker) tree(size int, kinds []api.Node) api.Graph {
	g := r.graph(size, kinds)
	g.Root = r.Intn(2) % size
	for i := range g.N {
		for j := range g.N[i].Args {
			if r.Intn(9) > 0 && i+1 < size {
				g.N[i].Args[j] = i + 1 + r.Intn(min(4, size-i-1))
			}
		}
	}
	return g
}

func (r maker) mono(size int) []int {
	var mono []int
	for range r.Intn(4) {
		mono = append(mono, r.Intn(size))
	}
	return mono
}

// kinds are such nodes as lead far, or to many free ones.
func kinds() [][]api.Node {
	return [][]api.Node{
		nodesOf(1),
		{arrow(0, 0), v, v}, {arrow(0, 0), times(0, 0), integer, v, v, open("")}, {shut("m", 0), shut("m n", 0, 0), integer, v}, {shut("m n", 0, 0), open("m", 0), integer, integer}, {arrow(0, 0), arrow(0, 0), arrow(0, 0), shut("a b c", 0, 0, 0), v, v, integer, open("m", 0)},
	}
}

// P13.1 to P13.3: graphs at random.
func TestLawsAtRandom(t *testing.T) {
	r := maker{rand.New(rand.NewSource(1))}
	many := kinds()
	copied, all, none := 0, 0, 0
	for i := range 40000 {
		size := 1 + r.Intn(12)
		make := r.graph
		if i%3 > 0 {
			make = r.tree
		}
		g := make(size, many[i%len(many)])
		switch n := wantLaws(t, g, r.mono(size)); n {
		case 0:
			none++
		case len(graph.Reach(g)):
			all++
		default:
			copied++
		}
	}
	if copied < 4000 || all < 8000 || none < 10000 {
		t.Errorf("some nodes are copied of %d, all of %d, none of %d: the graphs tell little", copied, all, none)
	}
}

// P13.1 to P13.3: greater graphs.
func TestLawsOfGreater(t *testing.T) {
	r := maker{rand.New(rand.NewSource(2))}
	many := kinds()
	for i := range 600 {
		size := 20 + r.Intn(30)
		wantLaws(t, r.graph(size, many[i%len(many)]), r.mono(size))
		wantLaws(t, r.tree(size, many[i%len(many)]), r.mono(size))
	}
}

// P1: no call panics, whatever it is given.
func TestOfAny(t *testing.T) {
	r := maker{rand.New(rand.NewSource(3))}
	of := nodesOf(3)
	wrong := 0
	for range 30000 {
		g := api.Graph{Root: r.Intn(6) - 1}
		for range r.Intn(6) {
			n := of[r.Intn(len(of))]
			if r.Intn(9) == 0 {
				n = api.Node{Kind: r.Intn(5), Args: []int{r.Intn(6) - 1}}
			}
			g.N = append(g.N, n)
		}
		var mono []int
		for range r.Intn(3) {
			mono = append(mono, r.Intn(6)-1)
		}
		no := slices.ContainsFunc(mono, func(at int) bool { return at < 0 || at >= len(g.N) })
		if graph.Check(g) != api.OK || no {
			wantErrors(t, g, mono, api.ErrArg, api.ErrArg)
			wrong++
			continue
		}
		wantLaws(t, g, mono)
	}
	if wrong < 5000 || wrong > 28000 {
		t.Errorf("%d are wrong", wrong)
	}
}

// chain is a graph of so many nodes, each of which leads to the next, but for the last one.
func chain(size int, each func(next int) api.Node, last api.Node) api.Graph {
	var g api.Graph
	for i := range size - 1 {
		g.N = append(g.N, each(i+1))
	}
	g.N = append(g.N, last)
	return g
}

var onlyM = []string{"m"}

func shutTo(next int) api.Node {
	return api.Node{Kind: api.NObj, Labels: onlyM, Args: []int{next}}
}
func openTo(next int) api.Node {
	return api.Node{Kind: api.NObj, Labels: onlyM, Args: []int{next}, Open: true}
}

// upTo are the numbers from one up to another one.
func upTo(from, to int) []int {
	var list []int
	for i := from; i < to; i++ {
		list = append(list, i)
	}
	return list
}

// moved are nodes that lead to others, so many numbers on.
func moved(list []api.Node, by int) []api.Node {
	answer := slices.Clone(list)
	for i, n := range list {
		answer[i].Args = slices.Clone(n.Args)
		for j := range n.Args {
			answer[i].Args[j] += by
		}
	}
	return answer
}

// P13.1, P13.2: as many nodes as there may be, one behind the other, and around; all copied, or all but a few; many monos, many generic nodes.
func TestOfMany(t *testing.T) {
	const most, half = api.MaxNodes, api.MaxNodes / 2
	one, opens := chain(half, shutTo, v), chain(half, openTo, openTo(0))
	wantFree(t, one, nil, nil, []int{half - 1})
	wantFresh(t, one, nil, half, moved(one.N, half)...)
	wantFree(t, opens, nil, nil, upTo(0, half))
	wantFresh(t, opens, nil, half, moved(opens.N, half)...)
	for _, g := range []api.Graph{one, opens} {
		g.N = append(slices.Clip(g.N), integer)
		wantErrors(t, g, nil, api.OK, api.ErrLong)
		wantFresh(t, g, []int{half - 1}, 0)
	}
	// All nodes are monos, and each leads to all behind it.
	long := chain(most, openTo, v)
	wantFree(t, long, upTo(0, most), upTo(0, most), nil)
	wantFresh(t, long, upTo(0, most), 0)
	wantFree(t, long, []int{half}, upTo(half, most), upTo(0, half))
	long.Root = half
	wantFree(t, long, nil, nil, upTo(half, most))
	wantErrors(t, long, nil, api.OK, api.ErrLong)
	long.N[half-1] = integer
	wantFree(t, long, []int{half + 9}, upTo(half+9, most), upTo(half, half+9))
	wantErrors(t, long, []int{half + 9}, api.OK, api.ErrLong)
}

// P13.1, P13.2: one node that leads to many, and many that lead to one; many monos of the same.
func TestOfManyArgs(t *testing.T) {
	const many = 200000
	wide := api.Node{Kind: api.NObj}
	for i := range many {
		wide.Labels = append(wide.Labels, "m"+strconv.Itoa(many+i))
		wide.Args = append(wide.Args, i+1)
	}
	g := nodes(append(append([]api.Node{wide}, slices.Repeat([]api.Node{arrow(many+1, 0)}, many)...), v)...)
	wantFree(t, g, nil, nil, []int{many + 1})
	order := slices.Concat([]int{0, 1, many + 1}, upTo(2, many+1)) // the first one that leads to the variable has it behind it
	becomes := make([]int, many+2)
	for i, at := range order {
		becomes[at] = many + 2 + i
	}
	var more []api.Node
	for _, at := range order {
		n := g.N[at]
		n.Args = nil
		for _, arg := range g.N[at].Args {
			n.Args = append(n.Args, becomes[arg])
		}
		more = append(more, n)
	}
	wantFresh(t, g, nil, many+2, more...)
	wantFree(t, g, slices.Repeat([]int{many / 2}, many), []int{many + 1}, nil)
	wantFresh(t, g, slices.Repeat([]int{many + 1}, many), 0)
}

// spared is a graph whose lists have spare room.
func spared(g api.Graph) api.Graph {
	h := api.Graph{N: append(make([]api.Node, 0, len(g.N)+2), g.N...), Root: g.Root}
	for i, n := range g.N {
		h.N[i].Args = append(append(make([]int, 0, 8), n.Args...), 77, 78)[:len(n.Args)]
		h.N[i].Labels = append(append(make([]string, 0, 8), n.Labels...), "spare", "room")[:len(n.Labels)]
	}
	return h
}

// whole is a graph with the spare room of its lists.
func whole(g api.Graph) api.Graph {
	h := api.Graph{N: slices.Clone(g.N[:cap(g.N)]), Root: g.Root}
	for i, n := range h.N {
		h.N[i].Args = slices.Clone(n.Args[:cap(n.Args)])
		h.N[i].Labels = slices.Clone(n.Labels[:cap(n.Labels)])
	}
	return h
}

func fill[T any](list []T, with T) {
	for i := range list {
		list[i] = with
	}
}

// wantOwn holds an answer to memory of its own: what one list of it has room for is written over, and no other one is changed.
func wantOwn(t *testing.T, g, want api.Graph) {
	t.Helper()
	for i := range g.N {
		args, labels := g.N[i].Args, g.N[i].Labels
		fill(args[len(args):cap(args)], -5)
		fill(labels[len(labels):cap(labels)], "?")
	}
	if !sameNodes(g, want) {
		t.Errorf("%v, and not %v: a list's spare room is another one's", g, want)
	}
	for i := range g.N {
		fill(g.N[i].Args, -5)
		fill(g.N[i].Labels, "?")
		if rest := g.N[i+1:]; !sameNodes(nodes(rest...), nodes(want.N[i+1:]...)) {
			t.Errorf("node %d of %v shares memory with one behind it", i, want)
		}
	}
	fill(g.N[:cap(g.N)], api.Node{Kind: -5})
}

// What is handed in is left as it is; what is answered is new memory, and no two lists of it share any.
func TestMemory(t *testing.T) {
	r := maker{rand.New(rand.NewSource(4))}
	many := kinds()
	for i := range 4000 {
		size := 1 + r.Intn(9)
		g := spared(r.tree(size, many[i%len(many)]))
		mono := append(append(make([]int, 0, 9), r.mono(size)...), 77, -1)
		mono = mono[:len(mono)-2]
		was, monos := whole(g), slices.Clone(mono[:cap(mono)])
		p := plainOf(rooted(g.Root, moved(g.N, 0)...), mono)
		for range 2 {
			wantFree(t, g, mono, p.fixed, p.generic)
			fixed, _ := gen.Fixed(g, mono)
			fill(fixed[:cap(fixed)], -5)
			generic, _ := gen.Generic(g, mono)
			fill(generic[:cap(generic)], -5)
			h, _ := gen.Fresh(g, mono)
			wantOwn(t, h, p.fresh)
		}
		if !reflect.DeepEqual(whole(g), was) || !slices.Equal(mono[:cap(mono)], monos) {
			t.Fatalf("%v, %v are changed to %v, %v", was, monos, whole(g), mono)
		}
	}
}
