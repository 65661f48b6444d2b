package typ_test

import (
	"math/rand"
	"reflect"
	"runtime/debug"
	"slices"
	"strconv"
	"strings"
	"testing"

	"trefoil/api"
	"trefoil/tree"
	"trefoil/typ"
)

// rules are the chapter's grammar: of each level what it may be. Label is any Name, Word a Tick.
var rules = map[string][]string{
	"Type": {"Arrow Names"}, "Names": {"", "as Word Names"}, "Arrow": {"Product", "Product -> Arrow"}, "Product": {"Atom", "Atom * Product"},
	"Atom": {"int", "bool", "string", "unit", "Word", "( Type )", "< >", "< Fields >"}, "Fields": {"..", "Field", "Field ; Fields"}, "Field": {"Label : Arrow"},
}

// A plain is a reading of tokens by the rules alone: all ways in which what is left of a type may go on, each a list of what is still to come.
type plain map[string]bool

// ahead adds the ways of w in which a token, or the end, is next.
func (p plain) ahead(w string) {
	first, rest, _ := strings.Cut(w, " ")
	ways, ok := rules[first]
	if !ok {
		p[w] = true
	}
	for _, way := range ways {
		p.ahead(strings.TrimSpace(way + " " + rest))
	}
}

func (p plain) next(x api.Token) plain {
	after := plain{}
	for w := range p {
		first, rest, _ := strings.Cut(w, " ")
		switch {
		case first == "Word" && x.Kind == api.Tick, first == "Label" && x.Kind == api.Name, x.Kind == api.Sym && first == x.S,
			x.Kind == api.Key && first == "as" && x.S == "as", x.Kind == api.Name && first == x.S:
			after.ahead(rest)
		}
	}
	return after
}

// plainPlace tells in another way where Parse comes to, labels that are there twice aside.
func plainPlace(l []api.Token) (int, api.Errno) {
	p := plain{}
	p.ahead("Type")
	for i, x := range l {
		after := p.next(x)
		if len(after) > 0 {
			p = after
			continue
		}
		belongs := x.Kind == api.Key && x.S == "as" || x.Kind == api.Sym && (x.S == "->" || x.S == "*")
		if p[""] && !belongs {
			return i, api.OK
		}
		return i, api.ErrForm
	}
	return 0, api.ErrArg
}

func agrees(t *testing.T, l []api.Token) {
	t.Helper()
	want, fault := plainPlace(l)
	got, place, e := typ.Parse(l, 0)
	if place != want || e != fault {
		t.Fatalf("Parse(%v) = %v, %d, %d, want %d, %d", l, got, place, e, want, fault)
	}
	if e != api.OK {
		if !tree.SameType(got, api.Type{}) {
			t.Fatalf("Parse(%v): a type beside an error: %v", l, got)
		}
		return
	}
	if tree.CheckType(got) != api.OK {
		t.Fatalf("Parse(%v) = %v, which may not be", l, got)
	}
	put, e := typ.Put(got)
	if e != api.OK {
		t.Fatalf("Put(%v): %d", got, e)
	}
	wantType(t, put, 0, got)
}

// P3.1: every list of a few tokens. One with which no type goes on is the same with more behind it.
func TestParseShortLists(t *testing.T) {
	alphabet := lexed(t, "int 'a as -> * ( ) < > : ; .. m")
	alphabet = alphabet[:len(alphabet)-1]
	lists := [][]api.Token{nil}
	for range 6 {
		var longer [][]api.Token
		for _, l := range lists {
			for _, x := range alphabet {
				with := append(slices.Clone(l), x, api.Token{})
				agrees(t, with)
				if place, _ := plainPlace(with); place == len(l)+1 {
					longer = append(longer, with[:len(l)+1])
				}
			}
		}
		lists = longer
	}
}

// A maker makes types that may be, and texts of them.
type maker struct{ *rand.Rand }

func (m maker) of(list ...string) string { return list[m.Intn(len(list))] }

func (m maker) typ(deep int) api.Type {
	if deep <= 0 {
		return []api.Type{tvar(m.of("a", "let", "b")), con(m.of("int", "bool", "string", "unit")), tobj(m.Intn(2) == 0, "")}[m.Intn(3)]
	}
	part := func() api.Type { return m.typ(deep - 1 - m.Intn(2)) }
	switch m.Intn(6) {
	case 0, 1:
		return arrow(part(), part())
	case 2, 3:
		return times(part(), part())
	case 4:
		return tas(m.of("a", "end", longest), part())
	}
	labels := strings.Fields("_ a aB aa b int")[m.Intn(6):]
	var args []api.Type
	for range labels {
		args = append(args, part())
	}
	return tobj(m.Intn(2) == 0, strings.Join(labels, " "), args...)
}

// blank is some blanks, or a note.
func (m maker) blank() string { return m.of(" ", "\n", "\t\r ", " (* -> *) ", "(**)") }

// written is a text of a type at a level (0 a type, 1 an arrow type, 2 a product, 3 an atom), with fields in any order, and with brackets that are needed and others.
func (m maker) written(t api.Type, level int) string {
	own, s := 3, ""
	switch {
	case t.Kind == api.TVar:
		s = "'" + t.S
	case t.Kind == api.TAs:
		own, s = 0, m.written(t.Args[0], 0)+m.blank()+"as"+m.blank()+"'"+t.S
	case t.Kind == api.TObj:
		var fields []string
		for i, label := range t.Labels {
			fields = append(fields, label+m.blank()+":"+m.blank()+m.written(t.Args[i], 1))
		}
		m.Shuffle(len(fields), func(i, j int) { fields[i], fields[j] = fields[j], fields[i] })
		if t.Open {
			fields = append(fields, "..")
		}
		s = "<" + m.blank() + strings.Join(fields, m.blank()+";"+m.blank()) + m.blank() + ">"
	case t.S == "->":
		own, s = 1, m.written(t.Args[0], 2)+m.blank()+"->"+m.blank()+m.written(t.Args[1], 1)
	case t.S == "*":
		own, s = 2, m.written(t.Args[0], 3)+m.blank()+"*"+m.blank()+m.written(t.Args[1], 2)
	default:
		s = t.S
	}
	if own < level || m.Intn(8) == 0 {
		return "(" + m.blank() + s + m.blank() + ")"
	}
	return s
}

// P3.1, P3.3: types as they are put, and as they may be written.
func TestPutIsParsed(t *testing.T) {
	m := maker{rand.New(rand.NewSource(5))}
	for range 5000 {
		want := m.typ(m.Intn(6))
		put, e := typ.Put(want)
		if e != api.OK {
			t.Fatalf("Put(%v): %d", want, e)
		}
		wantType(t, put, 0, want)
		wantType(t, m.written(want, 0), 0, want)
		if written, e := typ.Put(want); e != api.OK || written != put {
			t.Fatalf("Put(%v) = %q, then %q", want, put, written)
		}
	}
}

// hasBrackets says whether a part of a type stands in ( ), as the chapter tells it.
func hasBrackets(within, part api.Type, left bool) bool {
	is := func(t api.Type, sign string) bool { return t.Kind == api.TCon && t.S == sign }
	switch {
	case part.Kind == api.TAs:
		return within.Kind != api.TAs
	case is(part, "->"):
		return is(within, "->") && left || is(within, "*")
	case is(part, "*"):
		return is(within, "*") && left
	}
	return false
}

func plainPut(t api.Type) string {
	var parts []string
	for i, part := range t.Args {
		s := plainPut(part)
		if hasBrackets(t, part, i == 0) {
			s = "(" + s + ")"
		}
		parts = append(parts, s)
	}
	switch t.Kind {
	case api.TVar:
		return "'" + t.S
	case api.TAs:
		return parts[0] + " as '" + t.S
	case api.TCon:
		return strings.Join(parts, " "+t.S+" ") + strings.Repeat(t.S, 1-min(len(parts), 1))
	}
	for i, label := range t.Labels {
		parts[i] = label + " : " + parts[i]
	}
	if t.Open {
		parts = append(parts, "..")
	}
	if len(parts) == 0 {
		return "< >"
	}
	return "< " + strings.Join(parts, " ; ") + " >"
}

// P3.2: the brackets that are put are those that the chapter names.
func TestPutAsPlain(t *testing.T) {
	m := maker{rand.New(rand.NewSource(6))}
	for range 20000 {
		x := m.typ(m.Intn(5))
		if got, e := typ.Put(x); got != plainPut(x) || e != api.OK {
			t.Fatalf("Put(%v) = %q, %d, want %q", x, got, e, plainPut(x))
		}
	}
}

// P3.1: types with a token changed, taken away or put in. Labels that are there twice stay out of it, by names that differ.
func TestParseSpoilt(t *testing.T) {
	m := maker{rand.New(rand.NewSource(7))}
	pool := lexed(t, "int 'a as -> * ( ) < > : ; .. let x 1 \"as\" <- :> , int unit 'end")
	pool = pool[:len(pool)-1]
	for range 3000 {
		l := lexed(t, m.written(m.typ(m.Intn(4)), 0))
		for range 1 + m.Intn(2) {
			at := m.Intn(len(l))
			x := pool[m.Intn(len(pool))]
			switch cut := m.Intn(3); {
			case cut == 0:
				l = slices.Insert(l, at, x)
			case at == len(l)-1:
			case cut == 1:
				l[at] = x
			default:
				l = slices.Delete(l, at, at+1)
			}
		}
		for i := range l {
			if i+1 < len(l) && l[i].Kind == api.Name && l[i+1].S == ":" {
				l[i].S = "x" + strconv.Itoa(i)
			}
		}
		agrees(t, l)
	}
}

// Rule 4: what is handed in is not changed, its spare room included, and an answer is new memory.
func TestArgumentsStay(t *testing.T) {
	whole := lexed(t, "< n : 'a -> int ; m : < > * ('b as 'c) ; .. > as 'd x ( < int")
	l := append(slices.Clone(whole[:len(whole)-4]), whole[len(whole)-1])
	spare := append(slices.Clone(l), whole...)
	want := tas("d", open("m n", times(shut(""), tas("c", b)), arrow(a, integer)))
	got, _, e := typ.Parse(spare[:len(l)], 0)
	if e != api.OK || !tree.SameType(got, want) || !slices.Equal(spare, append(l, whole...)) {
		t.Errorf("%v, %d, %v", got, e, spare)
	}
	spoil(reflect.ValueOf(&got).Elem())
	if again, _, e := typ.Parse(spare[:len(l)], 0); e != api.OK || !tree.SameType(again, want) {
		t.Errorf("%v, %d, want %v", again, e, want)
	}

	behind := []api.Type{want.Args[0], tvar("spare")}
	labels := []string{"m", "spare"}
	put, e := typ.Put(api.Type{Kind: api.TAs, S: "d", Args: behind[:1]})
	if put != plainPut(want) || e != api.OK || !tree.SameType(behind[0], want.Args[0]) || !tree.SameType(behind[1], tvar("spare")) {
		t.Errorf("%q, %d, %v", put, e, behind)
	}
	put, e = typ.Put(api.Type{Kind: api.TObj, Labels: labels[:1], Args: behind[1:]})
	if put != "< m : 'spare >" || e != api.OK || labels[1] != "spare" {
		t.Errorf("%q, %d, %v", put, e, labels)
	}
}

// spoil overwrites all that is reached, spare room too.
func spoil(x reflect.Value) {
	switch x.Kind() {
	case reflect.Struct:
		for i := range x.NumField() {
			spoil(x.Field(i))
		}
	case reflect.Slice:
		x.SetLen(x.Cap())
		for i := range x.Len() {
			spoil(x.Index(i))
		}
	case reflect.String:
		x.SetString("spoilt")
	}
}

// Rule 4: no two lists of an answer share memory, their spare room too.
func TestListsAreApart(t *testing.T) {
	l := lexed(t, "< a : int * int -> int ; b : < a : ('a as 'b) > ; c : (int -> int) * < > >")
	want, _, _ := typ.Parse(l, 0)
	for i := range listsOf(&want) {
		x, _, _ := typ.Parse(l, 0)
		list := listsOf(&x)[i]
		size := len(*list)
		*list = append(*list, api.Type{Kind: -1}, api.Type{Kind: -1})[:size]
		if !tree.SameType(x, want) {
			t.Errorf("%v, want %v", x, want)
		}
	}
}

func listsOf(t *api.Type) []*[]api.Type {
	lists := []*[]api.Type{&t.Args}
	for i := range t.Args {
		lists = append(lists, listsOf(&t.Args[i])...)
	}
	return lists
}

// P1: Parse ends, and doesn't panic, of brackets, signs and fields that go deeper than calls within calls can.
func TestVeryDeep(t *testing.T) {
	defer debug.SetMaxStack(debug.SetMaxStack(1 << 20))
	const levels = 50000
	for _, x := range []struct {
		ahead, middle, behind string
		place                 int
		want                  api.Errno
	}{
		{"(", "int", ")", 2*levels + 1, api.OK}, {"(", "int", "", 1 + levels, api.ErrForm}, {"(", "", "", levels, api.ErrForm}, {"(", "x", ")", levels, api.ErrForm},
		{"int ->", "int", "", 0, api.ErrDeep}, {"int *", "int", "", 0, api.ErrDeep}, {"int -> int *", "x", "", 4 * levels, api.ErrForm}, {"", "int", "as 'a", 0, api.ErrDeep}, {"", "int", "as", 2, api.ErrForm},
		{"(", "int", "-> int)", 0, api.ErrDeep}, {"< m :", "'a", ">", 0, api.ErrDeep}, {"< m :", "", ">", 3 * levels, api.ErrForm}, {"< m :", "int", "", 3*levels + 1, api.ErrForm},
		{"< m : int * (int ->", "int", ") >", 0, api.ErrDeep}, {"< m : int * (int ->", "int", ") ; m : int >", 8*levels + 3, api.ErrForm},
	} {
		var l []api.Token
		ahead, middle, behind := lexed(t, x.ahead), lexed(t, x.middle), lexed(t, x.behind)
		for range levels {
			l = append(l, ahead[:len(ahead)-1]...)
		}
		l = append(l, middle[:len(middle)-1]...)
		for range levels {
			l = append(l, behind[:len(behind)-1]...)
		}
		l = append(l, api.Token{})
		got, place, e := typ.Parse(l, 0)
		if place != x.place || e != x.want || (e == api.OK) != tree.SameType(got, integer) {
			t.Errorf("%q, %q, %q: %d, %d, want %d, %d", x.ahead, x.middle, x.behind, place, e, x.place, x.want)
		}
	}
}

// P1: an object of very many fields.
func TestVeryWide(t *testing.T) {
	const size = 100000
	l := []api.Token{token(api.Sym, "<")}
	var labels []string
	for i := range size {
		label := "x" + strconv.Itoa(i*7919%size)
		labels = append(labels, label)
		l = append(l, token(api.Name, label), token(api.Sym, ":"), token(api.Tick, label), token(api.Sym, ";"))
	}
	l[len(l)-1] = token(api.Sym, ">")
	l = append(l, api.Token{})
	got, place, e := typ.Parse(l, 0)
	slices.Sort(labels)
	if e != api.OK || place != len(l)-1 || !slices.Equal(got.Labels, labels) || len(got.Args) != size {
		t.Fatalf("%d labels, %d parts, %d, %d", len(got.Labels), len(got.Args), place, e)
	}
	for i, label := range labels {
		if !tree.SameType(got.Args[i], tvar(label)) {
			t.Fatalf("%s: %v", label, got.Args[i])
		}
	}
	l[len(l)-5].S = labels[0]
	if _, place, e := typ.Parse(l, 0); place != len(l)-5 || e != api.ErrForm {
		t.Errorf("a label that is there twice: %d, %d", place, e)
	}
}
