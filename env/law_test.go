package env_test

import (
	"maps"
	"math/rand"
	"reflect"
	"runtime"
	"slices"
	"strconv"
	"strings"
	"testing"

	"trefoil/api"
	"trefoil/canon"
	"trefoil/env"
	"trefoil/graph"
	"trefoil/lex"
)

// plainCheck says in another way whether a class's type may be; its fields, if it may.
func plainCheck(c env.Class) (api.Errno, []string) {
	if e := graph.Check(c.G); e != api.OK {
		return e, nil
	}
	if c.Params < 0 || c.Params > 100 {
		return api.ErrArg, nil
	}
	spine := []int{c.G.Root}
	for i := 0; i < c.Params; i++ {
		n := c.G.N[spine[i]]
		if n.Kind != api.NCon || n.Name != "->" {
			return api.ErrArg, nil
		}
		spine = append(spine, n.Args[1])
	}
	top := c.G.N[spine[c.Params]]
	if top.Kind != api.NCon || top.Name != "*" {
		return api.ErrArg, nil
	}
	fields, object := c.G.N[top.Args[0]], c.G.N[top.Args[1]]
	if fields.Kind != api.NObj || object.Kind != api.NObj || fields.Open {
		return api.ErrArg, nil
	}
	told := map[string]int{}
	for _, list := range [][]string{c.Concrete, c.Virtual} {
		for i, name := range list {
			if !lex.IsName(name) || i > 0 && list[i-1] >= name || !slices.Contains(object.Labels, name) {
				return api.ErrArg, nil
			}
			told[name]++
		}
	}
	for _, label := range object.Labels {
		if told[label] != 1 {
			return api.ErrArg, nil
		}
	}
	return api.OK, fields.Labels
}

// wantPlain holds a class to the plain telling, and says whether it may be.
func wantPlain(t *testing.T, c env.Class) bool {
	t.Helper()
	err, fields := plainCheck(c)
	wantChecked(t, c, err, strings.Join(fields, " "))
	if e, got := env.New().WithClass("c", c); got != err || (e != nil) != (err == api.OK) {
		t.Errorf("WithClass(c, %v) = %v, %d, want %d", c, e, got, err)
	} else if err == api.OK {
		d := c
		d.G = canon.Least(c.G)
		wantClass(t, e, "c", d, api.OK)
		wantChecked(t, d, api.OK, strings.Join(fields, " "))
	}
	if t.Failed() {
		t.FailNow()
	}
	return err == api.OK
}

// nodesOf are the nodes that a graph of so many may have, of a few names and labels.
func nodesOf(size int) []api.Node {
	all := []api.Node{v, integer, shut(""), open("")}
	for i := range size {
		all = append(all, shut("m", i), open("m", i))
		for j := range size {
			all = append(all, arrow(i, j), times(i, j), shut("m n", i, j))
		}
	}
	return all
}

// lists are a few lists of names, those that rise first.
func lists() [][]string {
	return [][]string{nil, {"m"}, {"n"}, {"m", "n"}, {}, {"n", "m"}, {"m", "m"}, {"a", "m"}, {"m", "o"}, {"M"}, {""}, {"m", "let"}}
}

// P14.1, P14.2: all graphs of three nodes, each with some counts of parameters, and all lists.
func TestClassesOfAll(t *testing.T) {
	kinds := nodesOf(3)
	good, turn := 0, 0
	for _, x := range kinds {
		for _, y := range kinds {
			for _, z := range kinds {
				g := rooted(turn%3, x, y, z)
				for params := range 3 {
					// Of graphs that are no class's a few lists are enough.
					c := env.Class{Params: params, G: g, Concrete: lists()[turn%12], Virtual: lists()[turn/12%12]}
					turn++
					if wantPlain(t, c) {
						good++
					}
				}
				if n := g.N[g.Root]; n.Name == "*" && g.N[n.Args[0]].Kind == api.NObj && g.N[n.Args[1]].Kind == api.NObj {
					good += wantLists(t, g)
				}
			}
		}
	}
	if good < 1000 {
		t.Errorf("%d classes that may be", good)
	}
}

// wantLists holds a graph with all lists to the plain telling, and counts those that may be.
func wantLists(t *testing.T, g api.Graph) int {
	good := 0
	for _, concrete := range lists() {
		for _, virtual := range lists() {
			if c := (env.Class{G: g, Concrete: concrete, Virtual: virtual}); plainMayBe(c) != (env.CheckClass(c) == api.OK) {
				t.Fatalf("CheckClass(%v) = %d", c, env.CheckClass(c))
			} else if plainMayBe(c) {
				good++
			}
		}
	}
	return good
}

func plainMayBe(c env.Class) bool {
	err, _ := plainCheck(c)
	return err == api.OK
}

// maker makes things at random.
type maker struct{ *rand.Rand }

// object is one with some of a few labels.
func (r maker) object(size int, isOpen bool) api.Node {
	n := api.Node{Kind: api.NObj, Open: isOpen}
	for _, label := range []string{"a", "b", "c", "d", "e"} {
		if r.Intn(2) == 0 {
			n.Labels, n.Args = append(n.Labels, label), append(n.Args, r.Intn(size))
		}
	}
	return n
}

// node is one of a graph of so many.
func (r maker) node(size int) api.Node {
	switch r.Intn(6) {
	case 0:
		return v
	case 1:
		return con([]string{"int", "bool", "string", "unit"}[r.Intn(4)])
	case 2:
		return r.object(size, r.Intn(2) == 0)
	}
	return con([]string{"->", "*"}[r.Intn(2)], r.Intn(size), r.Intn(size))
}

// graph is one of so many nodes.
func (r maker) graph(size int) api.Graph {
	g := api.Graph{Root: r.Intn(size)}
	for range size {
		g.N = append(g.N, r.node(size))
	}
	return g
}

// class is one that may be: nodes that are put in any order, Root wherever it comes to stand.
func (r maker) class() env.Class {
	params, more := r.Intn(5), r.Intn(5)
	size := params + 3 + more
	at := r.Perm(size)
	g := api.Graph{N: make([]api.Node, size), Root: at[0]}
	for i := range params {
		g.N[at[i]] = arrow(r.Intn(size), at[i+1])
	}
	g.N[at[params]] = times(at[params+1], at[params+2])
	g.N[at[params+1]] = r.object(size, false)
	object := r.object(size, r.Intn(2) == 0)
	g.N[at[params+2]] = object
	for _, i := range at[params+3:] {
		g.N[i] = r.node(size)
	}
	c := env.Class{Params: params, G: g}
	for _, label := range object.Labels {
		if r.Intn(3) > 0 {
			c.Concrete = append(c.Concrete, label)
		} else {
			c.Virtual = append(c.Virtual, label)
		}
	}
	return c
}

// spoilt is a class in which one thing is another one.
func (r maker) spoilt(c env.Class) env.Class {
	c.G.N = slices.Clone(c.G.N)
	at := r.Intn(len(c.G.N))
	switch r.Intn(6) {
	case 0:
		c.Params += r.Intn(3) - 1
	case 1:
		c.G.Root = at
	case 2:
		c.G.N[at] = r.node(len(c.G.N))
	case 3:
		c.G.N[at].Open = !c.G.N[at].Open
	case 4:
		c.Concrete, c.Virtual = c.Virtual, c.Concrete
	case 5:
		c.Concrete = append(slices.Clone(c.Concrete), c.Virtual...)
	}
	return c
}

// P14.1, P14.2: classes at random, and what is nearly one.
func TestClassesAtRandom(t *testing.T) {
	r := maker{rand.New(rand.NewSource(1))}
	bad := 0
	for range 20000 {
		c := r.class()
		if !wantPlain(t, c) {
			t.Fatalf("%v may not be", c)
		}
		for range 4 {
			if !wantPlain(t, r.spoilt(c)) {
				bad++
			}
		}
	}
	if bad < 10000 {
		t.Errorf("%d classes that may not be", bad)
	}
}

// plain is what an Env is, told in another way: each name's meaning.
type plain struct {
	values  map[string]api.Graph
	classes map[string]env.Class
}

func (p plain) withValue(name string, g api.Graph) plain {
	q := plain{map[string]api.Graph{}, p.classes}
	maps.Copy(q.values, p.values)
	q.values[name] = canon.Least(g)
	return q
}

func (p plain) withClass(name string, c env.Class) plain {
	q := plain{p.values, map[string]env.Class{}}
	maps.Copy(q.classes, p.classes)
	c.G = canon.Least(c.G)
	q.classes[name] = c
	return q
}

// sorted are a map's names, with blanks between.
func sorted[T any](m map[string]T) string {
	return strings.Join(slices.Sorted(maps.Keys(m)), " ")
}

// wantLike holds an Env to the plain telling, of its own names and of some others.
func wantLike(t *testing.T, e *env.Env, p plain, others []string) {
	t.Helper()
	wantNames(t, e, sorted(p.values), sorted(p.classes))
	for _, name := range slices.Concat(others, []string{"fst", "snd", "not", "", "let"}) {
		g, isValue := p.values[name]
		c, isClass := p.classes[name]
		wantValue(t, e, name, g, errnoOf(isValue))
		wantClass(t, e, name, c, errnoOf(isClass))
	}
	if t.Failed() {
		t.FailNow()
	}
}

func errnoOf(found bool) api.Errno {
	if found {
		return api.OK
	}
	return api.ErrNone
}

func plainStart() plain {
	p := plain{map[string]api.Graph{}, map[string]env.Class{}}
	p = p.withValue("fst", nodes(arrow(1, 2), times(2, 3), v, v))
	p = p.withValue("snd", nodes(arrow(1, 2), times(3, 2), v, v))
	return p.withValue("not", nodes(arrow(1, 2), con("bool"), con("bool")))
}

// P14.2, P14.3: Envs that are made of one another, of the last one or of any, at random: each goes on being what it was.
func TestEnvsAtRandom(t *testing.T) {
	r := maker{rand.New(rand.NewSource(2))}
	for round := range 60 {
		var names []string
		for i := range 1 + r.Intn(12) {
			names = append(names, "x"+strconv.Itoa(r.Intn(50))+strings.Repeat("_", i%3))
		}
		names = append(names, "fst", "not")
		envs, plains := []*env.Env{env.New()}, []plain{plainStart()}
		for range 60 {
			at, name := len(envs)-1, names[r.Intn(len(names))]
			if round%2 == 0 {
				at = r.Intn(len(envs))
			}
			e, p := envs[at], plains[at]
			if r.Intn(3) > 0 {
				g := r.graph(1 + r.Intn(8))
				e, p = withValue(t, e, name, g), p.withValue(name, g)
			} else {
				c := r.class()
				e, p = withClass(t, e, name, c), p.withClass(name, c)
			}
			wantLike(t, e, p, names)
			envs, plains = append(envs, e), append(plains, p)
		}
		for i := range envs {
			wantLike(t, envs[i], plains[i], names)
		}
	}
	wantLike(t, env.New(), plainStart(), nil)
}

// P14.2, P14.3: many names, told in order, against it, and mixed; then told again with other meanings. In between stands what doesn't change.
func TestOfManyNames(t *testing.T) {
	const many = 3000
	r := maker{rand.New(rand.NewSource(3))}
	mixed := r.Perm(many)
	for _, of := range []func(i int) int{
		func(i int) int { return i },
		func(i int) int { return many - 1 - i },
		func(i int) int { return mixed[i] },
	} {
		e := env.New()
		var values, classes []*env.Env
		for i := range many {
			values = append(values, e)
			e = withValue(t, e, manyName(of(i)), manyType(of(i)))
			classes = append(classes, e)
			e = withClass(t, e, manyName(of(i)), manyClass(of(i)))
		}
		full := e
		for i := range many {
			if i%3 == 0 {
				e = withValue(t, e, manyName(of(i)), manyType(1))
				e = withClass(t, e, manyName(of(i)), manyClass(1))
			}
		}
		for i := range many {
			name, g, c := manyName(of(i)), manyType(of(i)), manyClass(of(i))
			wantValue(t, full, name, g, api.OK)
			wantClass(t, full, name, c, api.OK)
			wantValue(t, values[i], name, api.Graph{}, api.ErrNone)
			wantClass(t, classes[i], name, env.Class{}, api.ErrNone)
			if i > 0 {
				wantValue(t, values[i], manyName(of(i-1)), manyType(of(i-1)), api.OK)
				wantClass(t, classes[i], manyName(of(i-1)), manyClass(of(i-1)), api.OK)
			}
			if i%3 == 0 {
				g, c = manyType(1), manyClass(1)
			}
			wantValue(t, e, name, g, api.OK)
			wantClass(t, e, name, c, api.OK)
		}
		if got := e.Values(); len(got) != many+3 || !slices.IsSorted(got) {
			t.Errorf("%d values", len(got))
		}
		if got := e.Classes(); len(got) != many || !slices.IsSorted(got) {
			t.Errorf("%d classes", len(got))
		}
		if got := full.Values(); !slices.Equal(got, e.Values()) {
			t.Errorf("%d values", len(got))
		}
	}
}

func manyName(i int) string     { return "n" + strconv.Itoa(i) }
func manyType(i int) api.Graph  { return nodes(shut("m"+strconv.Itoa(i), 0)) }
func manyClass(i int) env.Class { return class(i%7, canon.Least(arrows(i%7)), "", "") }

// P14.2: very many names, each looked for again; and one that is told again and again keeps no more than its last meaning.
func TestOfVeryManyNames(t *testing.T) {
	const many = 200000
	e := env.New()
	for i := range many {
		e = withValue(t, e, manyName(i), nodes(integer))
	}
	for i := range many {
		wantValue(t, e, manyName(i), nodes(integer), api.OK)
		wantValue(t, e, "o"+strconv.Itoa(i), api.Graph{}, api.ErrNone)
	}
	if got := e.Values(); len(got) != many+3 {
		t.Errorf("%d values", len(got))
	}
	e = env.New()
	before := held()
	big := chain(20000)
	c := env.Class{Params: 1, G: api.Graph{N: append(slices.Clone(big.N), arrow(0, len(big.N)+1), times(len(big.N)+2, len(big.N)+3), shut(""), open("")), Root: len(big.N)}}
	for range 100 {
		e = withValue(t, e, "x", big)
		e = withClass(t, e, "c", c)
	}
	if more := held() - before; more > 100<<20 {
		t.Errorf("%d bytes are kept of what means nothing any more", more)
	}
	wantValue(t, e, "x", big, api.OK)
}

// held is how many bytes are in use.
func held() int64 {
	var m runtime.MemStats
	runtime.GC()
	runtime.ReadMemStats(&m)
	return int64(m.HeapAlloc)
}

// chain is a graph of so many nodes, each leading to the next: a least one.
func chain(size int) api.Graph {
	g := api.Graph{N: slices.Repeat([]api.Node{v}, size)}
	for i := range size - 1 {
		g.N[i] = shut("m", i+1)
	}
	return g
}

// P14.1, P14.2: as many nodes as there may be; very many fields and methods.
func TestOfManyNodes(t *testing.T) {
	const most = api.MaxNodes
	g := chain(most)
	wantValue(t, withValue(t, env.New(), "x", g), "x", g, api.OK)
	g = nodes(append([]api.Node{arrow(3, 1), times(2, 3), shut("v", 4), open("m", 4)}, chain(most).N[:most-4]...)...)
	for i := 4; i < most-1; i++ {
		g.N[i].Args = []int{i + 1}
	}
	g.N[most-1] = v
	c := class(1, g, "m", "")
	wantChecked(t, c, api.OK, "v")
	e := withClass(t, env.New(), "c", c)
	if d, err := e.Class("c"); err != api.OK || len(d.G.N) != most || !graph.Same(d.G, g) {
		t.Errorf("Class: %d nodes, %d", len(d.G.N), err)
	}
	const many = 100000
	var labels [3][]string
	wide := api.Node{Kind: api.NObj}
	for i := range many {
		name := "m" + strconv.Itoa(many+i)
		wide.Labels, wide.Args = append(wide.Labels, name), append(wide.Args, 0)
		labels[i%3] = append(labels[i%3], name)
	}
	told := env.Class{G: nodes(times(1, 1), wide), Concrete: wide.Labels}
	wantChecked(t, told, api.OK, strings.Join(wide.Labels, " "))
	wantClass(t, withClass(t, env.New(), "c", told), "c", told, api.OK)
	told.Concrete, told.Virtual = labels[0], labels[1]
	wantChecked(t, told, api.ErrArg, "")
	told.Virtual = append(labels[1], labels[2]...)
	wantChecked(t, told, api.ErrArg, "")
	slices.Sort(told.Virtual)
	wantChecked(t, told, api.OK, strings.Join(wide.Labels, " "))
	wantClass(t, withClass(t, env.New(), "c", told), "c", told, api.OK)
	told.Concrete = append(told.Concrete, labels[1][0])
	slices.Sort(told.Concrete)
	wantChecked(t, told, api.ErrArg, "")
}

// spared is a list with spare room.
func spared[T any](list []T, with T) []T {
	return append(append(make([]T, 0, len(list)+3), list...), with, with)[:len(list)]
}

// sparedClass is a class whose lists have spare room.
func sparedClass(c env.Class) env.Class {
	d := env.Class{Params: c.Params, G: api.Graph{Root: c.G.Root}, Concrete: spared(c.Concrete, "spare"), Virtual: spared(c.Virtual, "room")}
	for _, n := range c.G.N {
		n.Args, n.Labels = spared(n.Args, 77), spared(n.Labels, "spare")
		d.G.N = append(d.G.N, n)
	}
	d.G.N = spared(d.G.N, api.Node{Kind: -5})
	return d
}

// whole is a class with the spare room of its lists.
func whole(c env.Class) env.Class {
	d := env.Class{Params: c.Params, G: api.Graph{N: slices.Clone(c.G.N[:cap(c.G.N)]), Root: c.G.Root}}
	d.Concrete, d.Virtual = slices.Clone(c.Concrete[:cap(c.Concrete)]), slices.Clone(c.Virtual[:cap(c.Virtual)])
	for i, n := range d.G.N {
		d.G.N[i].Args, d.G.N[i].Labels = slices.Clone(n.Args[:cap(n.Args)]), slices.Clone(n.Labels[:cap(n.Labels)])
	}
	return d
}

func fill[T any](list []T, with T) {
	for i := range list {
		list[i] = with
	}
}

// wantOwn holds a class that was answered to lists of their own: what one has room for is written over, and no other one is changed; then all are written over.
func wantOwn(t *testing.T, c env.Class) {
	t.Helper()
	want := sparedClass(c)
	for i := range c.G.N {
		args, labels := c.G.N[i].Args, c.G.N[i].Labels
		fill(args[len(args):cap(args)], -5)
		fill(labels[len(labels):cap(labels)], "?")
	}
	fill(c.Concrete[len(c.Concrete):cap(c.Concrete)], "?")
	fill(c.Virtual[len(c.Virtual):cap(c.Virtual)], "?")
	if !sameClass(c, want) {
		t.Fatalf("%v, and not %v: a list's spare room is another one's", c, want)
	}
	for i := range c.G.N {
		fill(c.G.N[i].Args, -5)
		fill(c.G.N[i].Labels, "?")
		if rest := c.G.N[i+1:]; !sameNodes(nodes(rest...), nodes(want.G.N[i+1:]...)) {
			t.Fatalf("node %d of %v shares memory with one behind it", i, want)
		}
	}
	if !slices.Equal(c.Concrete, want.Concrete) || !slices.Equal(c.Virtual, want.Virtual) {
		t.Fatalf("%v, and not %v: a list is a node's", c, want)
	}
	fill(c.Concrete[:cap(c.Concrete)], "?")
	if !slices.Equal(c.Virtual, want.Virtual) {
		t.Fatalf("%v, and not %v: lists share memory", c, want)
	}
	fill(c.Virtual[:cap(c.Virtual)], "?")
	fill(c.G.N[:cap(c.G.N)], api.Node{Kind: -5})
}

// What is handed in is left as it is, and isn't kept; what is answered is new memory each time, and no two lists of it share any.
func TestMemory(t *testing.T) {
	r := maker{rand.New(rand.NewSource(4))}
	for range 2000 {
		p, c := plainStart(), sparedClass(r.class())
		was := whole(c)
		p = p.withValue("x", sparedClass(c).G).withClass("x", sparedClass(c))
		_, fields := plainCheck(sparedClass(c))
		e := withClass(t, withValue(t, env.New(), "x", c.G), "x", c)
		wantChecked(t, c, api.OK, strings.Join(fields, " "))
		got := env.Fields(c)
		fill(got[:cap(got)], "?")
		if !reflect.DeepEqual(whole(c), was) {
			t.Fatalf("%v is changed to %v", was, whole(c))
		}
		wantOwn(t, c)
		for range 2 {
			wantLike(t, e, p, []string{"x"})
			g, _ := e.Value("x")
			wantOwn(t, env.Class{G: g})
			d, _ := e.Class("x")
			wantOwn(t, d)
			values, classes := e.Values(), e.Classes()
			fill(values[:cap(values)], "?")
			fill(classes[:cap(classes)], "?")
		}
		wantLike(t, e, p, []string{"x"})
	}
}
