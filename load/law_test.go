package load_test

import (
	"math/rand"
	"reflect"
	"slices"
	"strconv"
	"testing"

	"trefoil/api"
	"trefoil/graph"
	"trefoil/load"
	"trefoil/tree"
)

// A plain tells a type's graph in another way: it follows names to what they are in the tree itself, part by part. Parts must be of their own.
type plain struct {
	parts  []*api.Type
	bound  map[string]*api.Type // what the as of a name binds
	number map[*api.Type]int    // of parts, and of a variable's first part
	vars   map[string]*api.Type
	g      api.Graph
}

func (p *plain) walk(t *api.Type) {
	p.parts = append(p.parts, t)
	for i := range t.Args {
		p.walk(&t.Args[i])
	}
}

// meaning is the part that a part is; false, if it goes round without an end.
func (p *plain) meaning(t *api.Type) (*api.Type, bool) {
	for range 2*len(p.parts) + 1 {
		switch to, bound := p.bound[t.S]; {
		case t.Kind == api.TAs:
			t = &t.Args[0]
		case t.Kind == api.TVar && bound:
			t = to
		case t.Kind == api.TVar:
			return p.vars[t.S], true
		default:
			return t, true
		}
	}
	return nil, false
}

// collect tells what names are; false, if one is bound twice, or is nothing but itself.
func (p *plain) collect() bool {
	for _, t := range p.parts {
		if t.Kind == api.TVar && p.vars[t.S] == nil {
			p.vars[t.S] = t
		}
		if t.Kind == api.TAs {
			if p.bound[t.S] != nil {
				return false
			}
			p.bound[t.S] = &t.Args[0]
		}
	}
	for _, t := range p.parts {
		if _, ends := p.meaning(t); !ends {
			return false
		}
	}
	return true
}

// node is the number of a part's node; nodes are told as they are come to.
func (p *plain) node(t *api.Type) int {
	t, _ = p.meaning(t)
	if at, ok := p.number[t]; ok {
		return at
	}
	at := len(p.g.N)
	p.number[t] = at
	n := api.Node{Kind: map[int]int{api.TVar: api.NVar, api.TCon: api.NCon, api.TObj: api.NObj}[t.Kind], Labels: t.Labels, Open: t.Open}
	if t.Kind == api.TCon {
		n.Name = t.S
	}
	p.g.N = append(p.g.N, n)
	for i := range t.Args {
		arg := p.node(&t.Args[i])
		p.g.N[at].Args = append(p.g.N[at].Args, arg)
	}
	return at
}

// plainLoad is a type's graph and its variables' names; false, if it is refused.
func plainLoad(t api.Type) (api.Graph, []string, bool) {
	p := plain{bound: map[string]*api.Type{}, number: map[*api.Type]int{}, vars: map[string]*api.Type{}}
	p.walk(&t)
	ok := p.collect()
	var names []string
	for _, x := range p.parts {
		isBound := slices.ContainsFunc(p.parts, func(y *api.Type) bool { return y.Kind == api.TAs && y.S == x.S })
		if x.Kind == api.TVar && !isBound && !slices.Contains(names, x.S) {
			names = append(names, x.S)
		}
	}
	if ok {
		p.node(&t)
	}
	return p.g, names, ok
}

// copied is a type with other names, in memory of its own.
func copied(t api.Type, name func(string) string) api.Type {
	c := api.Type{Kind: t.Kind, S: t.S, Open: t.Open, Labels: slices.Clone(t.Labels)}
	if t.Kind == api.TVar || t.Kind == api.TAs {
		c.S = name(t.S)
	}
	for _, x := range t.Args {
		c.Args = append(c.Args, copied(x, name))
	}
	return c
}

func asItIs(s string) string { return s }

// wantLaws holds what is told of a type to the plain telling, and to P7.3. It says whether the type has a graph.
func wantLaws(t *testing.T, x api.Type) bool {
	t.Helper()
	x = copied(x, asItIs)
	want, names, ok := plainLoad(x)
	g, e := load.Load(x)
	if ok != (e == api.OK) || !ok && e != api.ErrForm || !sameNodes(g, want) {
		t.Fatalf("Load(%v) = %v, %d, want %v, %v", x, g, e, want, ok)
	}
	if got := load.Names(x); !slices.Equal(got, names) {
		t.Fatalf("Names(%v) = %v, want %v", x, got, names)
	}
	vars := 0
	for _, n := range g.N {
		if n.Kind == api.NVar {
			vars++
		}
	}
	if ok && (vars != len(names) || graph.Check(g) != api.OK || !sameNodes(graph.Trim(g), g)) {
		t.Fatalf("Load(%v) = %v, of %d variables: %v", x, g, len(names), names)
	}
	// Names that are other ones, one by one.
	other := map[string]string{"a": "b", "b": "in", "c": "a", "in": "c"}
	h, f := load.Load(copied(x, func(s string) string { return other[s] }))
	if f != e || !sameNodes(g, h) {
		t.Fatalf("%v by other names is %v, %d, and not %v", x, h, f, g)
	}
	return ok
}

// wantBound holds a type to itself, when it, or a part of it, is bound by a name that isn't there.
func wantBound(t *testing.T, x api.Type) {
	t.Helper()
	g, e := load.Load(x)
	y := copied(x, asItIs)
	p := plain{}
	p.walk(&y)
	for _, part := range p.parts {
		was := *part
		*part = tas("fresh", was)
		if h, f := load.Load(y); f != e || !sameNodes(g, h) || e == api.OK && !graph.Same(g, h) {
			t.Fatalf("%v is %v, %d, and not %v, %d", y, h, f, g, e)
		}
		*part = was
	}
}

// typesOf are all types of so many parts, of a few names.
func typesOf(parts int, names []string, kept map[int][]api.Type) []api.Type {
	if list, ok := kept[parts]; ok {
		return list
	}
	var list []api.Type
	if parts == 1 {
		list = append(list, tint)
		for _, name := range names {
			list = append(list, tvar(name))
		}
	} else {
		for _, x := range typesOf(parts-1, names, kept) {
			list = append(list, tobj(false, "m", x))
			for _, name := range names {
				list = append(list, tas(name, x))
			}
		}
	}
	for left := 1; left < parts-1; left++ {
		for _, x := range typesOf(left, names, kept) {
			for _, y := range typesOf(parts-1-left, names, kept) {
				list = append(list, tcon("->", x, y))
			}
		}
	}
	kept[parts] = list
	return list
}

// P7.1, P7.3: all types of a few parts.
func TestLawsOfAll(t *testing.T) {
	for most, names := range map[int][]string{7: {"a", "b"}, 6: {"a", "b", "c"}} {
		kept := map[int][]api.Type{}
		loaded, all := 0, 0
		for parts := range most {
			for _, x := range typesOf(parts+1, names, kept) {
				all++
				if wantLaws(t, x) {
					loaded++
					wantBound(t, x)
				}
			}
		}
		if loaded < all/3 || loaded > all*9/10 {
			t.Errorf("%d of %d types have graphs: they tell little", loaded, all)
		}
	}
}

// A maker makes types at random.
type maker struct{ *rand.Rand }

// typ is a type that is no deeper than told; names that an as may bind are taken from free.
func (m maker) typ(deep int, free *[]string) api.Type {
	if deep <= 1 || m.Intn(6) == 0 {
		name := []string{"a", "b", "c", "in"}[m.Intn(4)]
		return []api.Type{tvar(name), tvar(name), tvar(name), tint, tcon("unit"), tobj(m.Intn(2) == 0, "")}[m.Intn(6)]
	}
	part := func() api.Type { return m.typ(deep-1, free) }
	switch m.Intn(6) {
	case 0, 1:
		return tcon("->", part(), part())
	case 2:
		return tcon("*", part(), part())
	case 3:
		if m.Intn(2) == 0 {
			return tobj(m.Intn(2) == 0, "m", part())
		}
		return tobj(m.Intn(2) == 0, "aa m z", part(), part(), part())
	}
	if len(*free) == 0 {
		return part()
	}
	name := (*free)[0]
	*free = (*free)[1:]
	return tas(name, part())
}

// P7.1, P7.3: types at random, and what is bound twice.
func TestLawsAtRandom(t *testing.T) {
	m := maker{rand.New(rand.NewSource(3))}
	loaded := 0
	const all = 20000
	for i := range all {
		free := []string{"a", "b", "c", "in"}
		m.Shuffle(len(free), func(i, j int) { free[i], free[j] = free[j], free[i] })
		if m.Intn(8) == 0 {
			free = append(free[:1], free...)
		}
		x := m.typ(1+m.Intn(6), &free)
		if wantLaws(t, x) {
			loaded++
		}
		if i%10 == 0 {
			wantBound(t, x)
		}
	}
	if loaded < all/2 || loaded > all*19/20 {
		t.Errorf("%d of %d types have graphs: they tell little", loaded, all)
	}
}

// P1: no call panics, whatever it is given.
func TestOfAny(t *testing.T) {
	m := maker{rand.New(rand.NewSource(4))}
	bad := badTypes()
	for range 5000 {
		free := []string{"a", "b"}
		x := copied(m.typ(1+m.Intn(4), &free), asItIs)
		p := plain{}
		p.walk(&x)
		*p.parts[m.Intn(len(p.parts))] = bad[m.Intn(len(bad))]
		wantRefused(t, x, api.ErrArg)
		if got := load.Names(x); len(got) != 0 {
			t.Fatalf("Names(%v) = %v", x, got)
		}
	}
}

// wide is an object with so many fields.
func wide(size int, field func(i int) api.Type) api.Type {
	x := api.Type{Kind: api.TObj}
	for i := range size {
		x.Labels = append(x.Labels, "x"+strconv.Itoa(1<<30+i))
		x.Args = append(x.Args, field(i))
	}
	return x
}

func word(i int) string { return "n" + strconv.Itoa(i) }

// P7.1: very many names, each of which is the next one, in whatever order they come.
func TestLoadOfManyNames(t *testing.T) {
	const size = 300000
	shuffled := rand.New(rand.NewSource(5)).Perm(size)
	for i, order := range []func(i int) int{func(i int) int { return i }, func(i int) int { return size - 1 - i }, func(i int) int { return shuffled[i] }} {
		x := wide(size, func(i int) api.Type { return tas(word(order(i)), tvar(word(order(i)+1))) })
		g, e := load.Load(x)
		if e != api.OK || len(g.N) != 2 || len(g.N[0].Args) != size || slices.Max(g.N[0].Args) != 1 || slices.Min(g.N[0].Args) != 1 || g.N[1].Kind != api.NVar {
			t.Errorf("%d: %d nodes, %d", i, len(g.N), e)
		}
		if got := load.Names(x); !slices.Equal(got, []string{word(size)}) {
			t.Errorf("%d: %.200v", i, got)
		}
		x.Labels, x.Args = append(x.Labels, "y"), append(x.Args, tas(word(size), tvar(word(0))))
		wantRefused(t, x, api.ErrForm)
		if got := load.Names(x); len(got) != 0 {
			t.Errorf("%d: %.200v", i, got)
		}
	}
}

// P7.1: as many nodes as a graph may have; names that are bound are none.
func TestLoadOfManyNodes(t *testing.T) {
	const fields = api.MaxNodes - 1
	g, e := load.Load(wide(fields, func(i int) api.Type { return tas(word(i), tint) }))
	if e != api.OK || len(g.N) != api.MaxNodes || graph.Check(g) != api.OK {
		t.Fatalf("%d nodes, %d", len(g.N), e)
	}
	for i, at := range g.N[0].Args {
		if at != i+1 || g.N[at].Name != "int" {
			t.Fatalf("field %d is %v", i, g.N[at])
		}
	}
	x := wide(fields, func(i int) api.Type { return tvar(word(i / 2)) })
	if g, e := load.Load(x); e != api.OK || len(g.N) != 1+(fields+1)/2 {
		t.Errorf("%d nodes, %d", len(g.N), e)
	}
	if got := load.Names(x); len(got) != (fields+1)/2 || got[fields/2] != word(fields/2) {
		t.Errorf("%d names", len(got))
	}
}

// spared is a type whose lists have spare room.
func spared(t api.Type) api.Type {
	x := t
	x.Args, x.Labels = make([]api.Type, len(t.Args), len(t.Args)+2), append(slices.Clone(t.Labels), "spare", "room")[:len(t.Labels)]
	for i := range t.Args {
		x.Args[i] = spared(t.Args[i])
	}
	copy(x.Args[len(x.Args):cap(x.Args)], []api.Type{tvar("spare"), tbool})
	return x
}

// whole is a type with the spare room of its lists.
func whole(t api.Type) api.Type {
	x := t
	x.Args, x.Labels = nil, slices.Clone(t.Labels[:cap(t.Labels)])
	for _, part := range t.Args[:cap(t.Args)] {
		x.Args = append(x.Args, whole(part))
	}
	return x
}

// spoil overwrites all that is reached, spare room too.
func spoil(x reflect.Value) {
	switch x.Kind() {
	case reflect.Struct:
		for i := range x.NumField() {
			spoil(x.Field(i))
		}
	case reflect.Slice:
		x.SetLen(x.Cap())
		for i := range x.Len() {
			spoil(x.Index(i))
		}
	case reflect.String:
		x.SetString("spoilt")
	case reflect.Int:
		x.SetInt(-5)
	}
}

// What is handed in is left as it is; what is answered is new memory, and no two lists of it share any.
func TestMemory(t *testing.T) {
	label := []string{"m", "n"}
	part := api.Type{Kind: api.TObj, Labels: label, Args: []api.Type{tvar("a"), tint}}
	list := []api.Type{tcon("->", part, tcon("*", part, tas("b", tobj(true, "m n o p", tvar("a"), tvar("b"), tvar("c"), tint)))), itself, twice, tooDeep, badTypes()[0]}
	for _, x := range loads {
		list = append(list, written(t, x.text))
	}
	for _, x := range list {
		in := spared(x)
		was := whole(in)
		g, e := load.Load(in)
		want, _ := load.Load(x)
		for i := range g.N {
			g.N[i].Args = append(g.N[i].Args, -5, -5, -5)[:len(g.N[i].Args)]
			g.N[i].Labels = append(g.N[i].Labels, "?", "?", "?")[:len(g.N[i].Labels)]
		}
		if !sameNodes(g, want) {
			t.Errorf("Load(%v): its lists share memory", x)
		}
		spoil(reflect.ValueOf(&g).Elem())
		names, wantNames := load.Names(in), load.Names(x)
		spoil(reflect.ValueOf(&names).Elem())
		if now := whole(in); !tree.SameType(now, was) || !reflect.DeepEqual(now, was) {
			t.Errorf("%v is changed to %v", was, now)
		}
		if again, f := load.Load(in); f != e || !sameNodes(again, want) || !slices.Equal(load.Names(in), wantNames) {
			t.Errorf("Load(%v) = %v, %d, then %d", x, again, e, f)
		}
	}
}
