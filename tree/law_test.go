package tree_test

import (
	"math/rand"
	"reflect"
	"runtime/debug"
	"slices"
	"testing"

	"trefoil/api"
	"trefoil/lex"
	"trefoil/tree"
)

// has is what a Kind of expression has: how many Args and Types (-1: any), and which of the others (S: a name, perhaps a name, an op, a text).
type has struct {
	args, types int
	s           string
}

var kinds = map[int]has{
	api.Var: {0, 0, "name"}, api.Num: {}, api.Bool: {}, api.Text: {0, 0, "text"}, api.Unit: {}, api.Fun: {1, 0, "name"},
	api.App: {2, 0, ""}, api.Pair: {2, 0, ""}, api.Seq: {2, 0, ""}, api.Let: {2, 0, "name"}, api.Rec: {2, 0, "name"}, api.If: {3, 0, ""}, api.Op: {2, 0, "op"},
	api.Object: {0, 0, "perhaps"}, api.Send: {1, 0, "name"}, api.Set: {1, 0, "name"}, api.New: {-1, 0, "name"}, api.Clone: {-1, 0, ""},
	api.Annot: {1, 1, ""}, api.Coerce: {1, 2, ""},
}

// plainMayBe tells in another way whether an expression may be: by a table, a field at a time, and by calls within calls.
func plainMayBe(e api.Expr) bool {
	h, ok := kinds[e.Kind]
	ok = ok && (h.args < 0 || len(e.Args) == h.args) && len(e.Types) == h.types && plainText(h.s, e.S)
	ok = ok && (e.N == 0 || e.Kind == api.Num && e.N > 0 || e.Kind == api.Bool && e.N == 1)
	ok = ok && (len(e.Names) == 0 || e.Kind == api.Clone) && (len(e.Names) == len(e.Args) || e.Kind != api.Clone)
	ok = ok && !slices.ContainsFunc(e.Names, func(s string) bool { return !lex.IsName(s) })
	ok = ok && (e.Kind != api.Rec || e.Args[0].Kind == api.Fun) && (len(e.Members) == 0 || e.Kind == api.Object)
	for _, x := range e.Args {
		ok = ok && plainMayBe(x)
	}
	for _, t := range e.Types {
		ok = ok && plainTypeMayBe(t)
	}
	for _, m := range e.Members {
		as := ""
		if m.Kind == api.Inherit {
			as = "perhaps"
		}
		args := map[int]int{api.Inherit: len(m.Args), api.Val: 1, api.Method: 1, api.Virtual: 0}
		n, known := args[m.Kind]
		ok = ok && known && len(m.Args) == n && lex.IsName(m.Name) && plainText(as, m.As) && (m.Kind == api.Virtual) == (len(m.Types) == 1) && len(m.Types) < 2
		for _, x := range m.Args {
			ok = ok && plainMayBe(x)
		}
		for _, t := range m.Types {
			ok = ok && plainTypeMayBe(t)
		}
	}
	return ok
}

func plainText(what, s string) bool {
	switch what {
	case "name":
		return lex.IsName(s)
	case "perhaps":
		return s == "" || lex.IsName(s)
	case "op":
		return slices.Contains([]string{"+", "-", "*", "/", "=", "<"}, s)
	case "text":
		return len(s) <= 65536
	}
	return s == ""
}

func plainTypeMayBe(t api.Type) bool {
	args := map[string]int{"int": 0, "bool": 0, "string": 0, "unit": 0, "->": 2, "*": 2}
	for _, x := range t.Args {
		if !plainTypeMayBe(x) {
			return false
		}
	}
	word := lex.IsName(t.S) || lex.IsKey(t.S)
	switch t.Kind {
	case api.TVar:
		return word && len(t.Args) == 0 && len(t.Labels) == 0 && !t.Open
	case api.TCon:
		n, ok := args[t.S]
		return ok && len(t.Args) == n && len(t.Labels) == 0 && !t.Open
	case api.TObj:
		sorted := slices.Compact(slices.Sorted(slices.Values(t.Labels)))
		return t.S == "" && len(t.Args) == len(t.Labels) && slices.Equal(sorted, t.Labels) && !slices.ContainsFunc(t.Labels, func(s string) bool { return !lex.IsName(s) })
	case api.TAs:
		return word && len(t.Args) == 1 && len(t.Labels) == 0 && !t.Open
	}
	return false
}

func plainSize(e api.Expr) int {
	size := 1
	for _, x := range e.Args {
		size += plainSize(x)
	}
	for _, m := range e.Members {
		size++
		for _, x := range m.Args {
			size += plainSize(x)
		}
	}
	return size
}

func plainDeep(e api.Expr) int {
	most := 0
	for _, x := range e.Args {
		most = max(most, plainDeep(x))
	}
	for _, m := range e.Members {
		within := 0
		for _, x := range m.Args {
			within = max(within, plainDeep(x))
		}
		most = max(most, within+1)
	}
	return most + 1
}

func plainValue(e api.Expr) bool {
	switch e.Kind {
	case api.Num, api.Bool, api.Text, api.Unit, api.Var, api.Fun:
		return true
	case api.Pair:
		return len(e.Args) == 2 && plainValue(e.Args[0]) && plainValue(e.Args[1])
	case api.Annot:
		return len(e.Args) == 1 && plainValue(e.Args[0])
	}
	return false
}

// A maker makes trees that may be, and spoils them.
type maker struct{ *rand.Rand }

func (m maker) of(list ...string) string { return list[m.Intn(len(list))] }

func (m maker) name() string { return m.of("x", "y", "_", "aB1", longest) }

func (m maker) exprs(n, deep int) []api.Expr {
	var list []api.Expr
	for range n {
		list = append(list, m.expr(deep))
	}
	return list
}

func (m maker) types(n, deep int) []api.Type {
	var list []api.Type
	for range n {
		list = append(list, m.typ(deep))
	}
	return list
}

func (m maker) typ(deep int) api.Type {
	if deep == 0 {
		return []api.Type{tvar(m.of("a", "let", "b")), con(m.of("int", "bool", "string", "unit")), tobj(m.Intn(2) == 0, nil)}[m.Intn(3)]
	}
	labels := slices.Clone([]string{"_", "a", "aB", "aa", "b"}[m.Intn(4):])
	return []api.Type{
		con(m.of("->", "*"), m.types(2, deep-1)...), tobj(m.Intn(2) == 0, labels, m.types(len(labels), deep-1)...), tas(m.of("a", "end", "b"), m.typ(deep-1)),
	}[m.Intn(3)]
}

func (m maker) expr(deep int) api.Expr {
	if deep <= 0 {
		return []api.Expr{v(m.name()), num(m.Int63()), {Kind: api.Bool, N: m.Int63n(2)}, {Kind: api.Text, S: m.of("", "a\n", "\x00")}, unit(), with(api.New, m.name()), object("")}[m.Intn(7)]
	}
	kind := 1 + m.Intn(20)
	h, n := kinds[kind], m.Intn(3)
	if h.args >= 0 {
		n = h.args
	}
	e := api.Expr{Kind: kind, Args: m.exprs(n, deep-1-m.Intn(2)), Types: m.types(h.types, m.Intn(3))}
	switch kind {
	case api.Bool:
		e.N = m.Int63n(2)
	case api.Rec:
		e.Args[0] = fun(m.name(), e.Args[0])
	case api.Clone:
		for range n {
			e.Names = append(e.Names, m.name())
		}
	case api.Object:
		e.Members = []api.Member{inherit(m.name(), m.of("", "p"), m.exprs(m.Intn(3), deep-1)...), member(api.Val, m.name(), m.expr(deep-1)), member(api.Method, m.name(), m.expr(deep-1)), virtual(m.name(), m.typ(1))}[:m.Intn(5)]
	}
	e.S = map[string]string{"name": m.name(), "perhaps": m.of("", "s"), "op": m.of("+", "-", "*", "/", "=", "<"), "text": m.of("", "\"")}[h.s]
	return e
}

// spoil changes one field of one part, so that what was may perhaps be no more, and perhaps is as it was.
func (m maker) spoil(x reflect.Value) {
	switch x.Kind() {
	case reflect.Struct:
		m.spoil(x.Field(m.Intn(x.NumField())))
	case reflect.Int, reflect.Int64:
		x.SetInt(x.Int() + int64(m.Intn(3)-1))
	case reflect.Bool:
		x.SetBool(m.Intn(2) == 0)
	case reflect.String:
		x.SetString(m.of("", "x", "y", "let", "A", "+", "int", "->", "aa", tooLong))
	case reflect.Slice:
		n := x.Len()
		switch at := m.Intn(n + 3); {
		case at < n:
			m.spoil(x.Index(at))
		case at == n && n > 0:
			x.Set(x.Slice(0, n-1))
		case at == n+1:
			x.Set(reflect.Append(x.Slice3(0, n, n), reflect.Zero(x.Type().Elem())))
		default:
			x.Set(reflect.AppendSlice(reflect.MakeSlice(x.Type(), 0, n+9), x))
		}
	}
}

// again is the same tree with lists of its own, empty ones in place of nil ones.
func again[T any](x T) T {
	return fresh(reflect.ValueOf(x)).Interface().(T)
}

func fresh(x reflect.Value) reflect.Value {
	y := reflect.New(x.Type()).Elem()
	y.Set(x)
	switch x.Kind() {
	case reflect.Struct:
		for i := range x.NumField() {
			y.Field(i).Set(fresh(x.Field(i)))
		}
	case reflect.Slice:
		y = reflect.MakeSlice(x.Type(), x.Len(), x.Len())
		for i := range x.Len() {
			y.Index(i).Set(fresh(x.Index(i)))
		}
	}
	return y
}

// agrees holds every function against its plain one.
func agrees(t *testing.T, e api.Expr) {
	t.Helper()
	want := api.ErrArg
	if plainMayBe(e) {
		want = api.OK
	}
	if got := tree.Check(e); got != want {
		t.Fatalf("Check(%+v) = %d, want %d", e, got, want)
	}
	if got := tree.Size(e); got != plainSize(e) {
		t.Fatalf("Size(%+v) = %d, want %d", e, got, plainSize(e))
	}
	if got := tree.Deep(e); got != plainDeep(e) {
		t.Fatalf("Deep(%+v) = %d, want %d", e, got, plainDeep(e))
	}
	if got := tree.Value(e); got != plainValue(e) {
		t.Fatalf("Value(%+v) = %v, want %v", e, got, plainValue(e))
	}
}

// P2.1 to P2.4: trees that may be, and such with a field changed.
func TestAsPlain(t *testing.T) {
	m := maker{rand.New(rand.NewSource(2))}
	for range 20000 {
		e := m.expr(m.Intn(5))
		agrees(t, e)
		wantCheck(t, e, api.OK)
		before := again(e)
		spoilt := again(e)
		for range 1 + m.Intn(2) {
			m.spoil(reflect.ValueOf(&spoilt).Elem())
		}
		agrees(t, spoilt)
		want := reflect.DeepEqual(before, again(spoilt))
		if tree.Same(e, spoilt) != want || tree.Same(spoilt, e) != want {
			t.Fatalf("Same(%+v, %+v) is not %v", e, spoilt, want)
		}
		if !tree.Same(e, before) || !tree.Same(spoilt, again(spoilt)) {
			t.Fatalf("%+v is not the same as itself", e)
		}
	}
}

// P2.1, P2.2: types likewise.
func TestTypesAsPlain(t *testing.T) {
	m := maker{rand.New(rand.NewSource(3))}
	for range 20000 {
		x := m.typ(m.Intn(4))
		wantCheckType(t, x, api.OK)
		spoilt := again(x)
		for range 1 + m.Intn(2) {
			m.spoil(reflect.ValueOf(&spoilt).Elem())
		}
		want := api.ErrArg
		if plainTypeMayBe(spoilt) {
			want = api.OK
		}
		if got := tree.CheckType(spoilt); got != want {
			t.Fatalf("CheckType(%+v) = %d, want %d", spoilt, got, want)
		}
		same := reflect.DeepEqual(again(x), again(spoilt))
		if tree.SameType(x, spoilt) != same || tree.SameType(spoilt, x) != same || !tree.SameType(spoilt, again(spoilt)) {
			t.Fatalf("SameType(%+v, %+v) is not %v", x, spoilt, same)
		}
	}
}

// P2.4: what is Same is as great and as deep; a part of what may be may be.
func TestSameIsAsGreat(t *testing.T) {
	m := maker{rand.New(rand.NewSource(4))}
	var list []api.Expr
	for range 300 {
		list = append(list, m.expr(m.Intn(3)))
	}
	for _, a := range list {
		for _, b := range list {
			if tree.Same(a, b) && (tree.Size(a) != tree.Size(b) || tree.Deep(a) != tree.Deep(b) || tree.Value(a) != tree.Value(b)) {
				t.Fatalf("%v, %v", a, b)
			}
		}
		for _, part := range a.Args {
			wantCheck(t, part, api.OK)
		}
		for _, member := range a.Members {
			for _, part := range member.Args {
				wantCheck(t, part, api.OK)
			}
			for _, part := range member.Types {
				wantCheckType(t, part, api.OK)
			}
		}
	}
}

// Rule 4: what is handed in is not changed, its spare room included.
func TestArgumentsStay(t *testing.T) {
	spare := func() api.Expr {
		e := object("s", inherit("c", "p", v("x")), virtual("m", tobj(true, []string{"a"}, integer)))
		e.Members = append(e.Members, member(api.Val, "spare", clone([]string{"x"}, annot(v("x"), integer))))[:2]
		e.Members[0].Args = append(e.Members[0].Args, v("spare"))[:1]
		e.Members[1].Types[0].Labels = append(e.Members[1].Types[0].Labels, "spare")[:1]
		return with(api.Rec, "f", fun("x", e), e)
	}
	e, want := spare(), spare()
	tree.Check(e)
	tree.Size(e)
	tree.Deep(e)
	tree.Value(e)
	tree.Same(e, spare())
	tree.CheckType(e.Args[1].Members[1].Types[0])
	tree.SameType(e.Args[1].Members[1].Types[0], integer)
	for _, e := range []*api.Expr{&e, &want} {
		o := &e.Args[1]
		o.Members = o.Members[:3]
		o.Members[0].Args = o.Members[0].Args[:2]
		o.Members[1].Types[0].Labels = o.Members[1].Types[0].Labels[:2]
	}
	if !reflect.DeepEqual(e, want) {
		t.Errorf("%+v, want %+v", e, want)
	}
}

// P1: trees that are deeper than calls within calls can go; whichever part goes on.
func TestVeryDeep(t *testing.T) {
	defer debug.SetMaxStack(debug.SetMaxStack(1 << 20))
	const levels = 30000
	right, left, bad, pairs, objects, x := unit(), unit(), v("A"), unit(), unit(), tvar("a")
	wrong := badType
	for range levels {
		right = app(unit(), right)
		left = app(left, unit())
		bad = annot(bad, integer)
		pairs = with(api.Pair, "", annot(pairs, integer), unit())
		objects = object("", member(api.Val, "x", objects), virtual("m", integer))
		x = con("->", x, integer)
		wrong = con("->", integer, wrong)
	}
	for i, e := range []api.Expr{right, left, pairs, objects, annot(unit(), x), object("", virtual("m", x))} {
		wantDeep := []int{levels + 1, levels + 1, 2*levels + 1, 2*levels + 1, 2, 2}[i]
		wantSize := []int{2*levels + 1, 2*levels + 1, 3*levels + 1, 3*levels + 1, 2, 2}[i]
		if got := tree.Check(e); got != api.ErrDeep {
			t.Errorf("%d: Check = %d", i, got)
		}
		if size, deep := tree.Size(e), tree.Deep(e); size != wantSize || deep != wantDeep {
			t.Errorf("%d: %d parts, %d deep, want %d, %d", i, size, deep, wantSize, wantDeep)
		}
		if !tree.Same(e, e) || tree.Same(e, right) != (i == 0) {
			t.Errorf("%d: Same", i)
		}
		if tree.Value(e) != (i == 2 || i == 4) {
			t.Errorf("%d: Value", i)
		}
	}
	for i, e := range []api.Expr{bad, annot(unit(), wrong), object("", virtual("m", wrong)), app(right, v("A")), app(v("A"), left), app(objects, v("A"))} {
		if got := tree.Check(e); got != api.ErrArg {
			t.Errorf("%d: Check of one that may not be = %d", i, got)
		}
	}
	if tree.CheckType(x) != api.ErrDeep || tree.CheckType(wrong) != api.ErrArg || !tree.SameType(x, x) || tree.SameType(x, wrong) {
		t.Error("types")
	}
}
