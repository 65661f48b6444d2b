package tree_test

import (
	"math"
	"strings"
	"testing"

	"trefoil/api"
	"trefoil/lex"
	"trefoil/tree"
)

func v(s string) api.Expr               { return api.Expr{Kind: api.Var, S: s} }
func num(n int64) api.Expr              { return api.Expr{Kind: api.Num, N: n} }
func unit() api.Expr                    { return api.Expr{Kind: api.Unit} }
func fun(s string, e api.Expr) api.Expr { return with(api.Fun, s, e) }
func app(f, x api.Expr) api.Expr        { return with(api.App, "", f, x) }
func with(kind int, s string, args ...api.Expr) api.Expr {
	return api.Expr{Kind: kind, S: s, Args: args}
}
func object(s string, members ...api.Member) api.Expr {
	return api.Expr{Kind: api.Object, S: s, Members: members}
}
func member(kind int, name string, args ...api.Expr) api.Member {
	return api.Member{Kind: kind, Name: name, Args: args}
}
func inherit(name, as string, args ...api.Expr) api.Member {
	return api.Member{Kind: api.Inherit, Name: name, As: as, Args: args}
}
func virtual(name string, types ...api.Type) api.Member {
	return api.Member{Kind: api.Virtual, Name: name, Types: types}
}
func clone(names []string, args ...api.Expr) api.Expr {
	return api.Expr{Kind: api.Clone, Names: names, Args: args}
}
func annot(e api.Expr, types ...api.Type) api.Expr {
	return api.Expr{Kind: api.Annot, Types: types, Args: []api.Expr{e}}
}
func coerce(e api.Expr, types ...api.Type) api.Expr {
	return api.Expr{Kind: api.Coerce, Types: types, Args: []api.Expr{e}}
}
func tvar(s string) api.Type { return api.Type{Kind: api.TVar, S: s} }
func con(s string, args ...api.Type) api.Type {
	return api.Type{Kind: api.TCon, S: s, Args: args}
}
func tas(s string, args ...api.Type) api.Type {
	return api.Type{Kind: api.TAs, S: s, Args: args}
}
func tobj(open bool, labels []string, args ...api.Type) api.Type {
	return api.Type{Kind: api.TObj, Open: open, Labels: labels, Args: args}
}

var (
	longest = strings.Repeat("a", api.MaxName)
	tooLong = longest + "a"
	integer = con("int")
	badType = con("float")
)

// allKinds is an expression of each Kind that may be, and of Kinds with what they may have or not.
func allKinds() []api.Expr {
	x := v("x")
	list := []api.Expr{
		x, v("_"), v(longest), num(0), num(math.MaxInt64), {Kind: api.Bool}, {Kind: api.Bool, N: 1}, unit(),
		{Kind: api.Text}, {Kind: api.Text, S: "\x00\"\\\n\xff let"}, {Kind: api.Text, S: strings.Repeat("\n", api.MaxText)},
		fun("x", x), app(x, x), with(api.Pair, "", x, x), with(api.Seq, "", x, x), with(api.If, "", x, x, x),
		with(api.Let, "x", x, x), with(api.Let, "x", fun("x", x), x), with(api.Rec, "f", fun("x", x), x),
		with(api.Send, "m", x), with(api.Set, "x", x), with(api.New, "c"), with(api.New, "c", x), with(api.New, "c", x, x, x, x),
		object(""), object("s"), object("s", inherit("c", ""), inherit("c", "p", x, x), member(api.Val, "x", x), member(api.Method, "x", x), virtual("x", integer)),
		object("", virtual("m", integer), virtual("m", integer)),
		clone(nil), clone([]string{"x"}, x), clone([]string{"z", "a", "z"}, x, x, x), annot(x, integer), coerce(x, integer, tvar("a")),
	}
	for _, op := range []string{"+", "-", "*", "/", "=", "<"} {
		list = append(list, with(api.Op, op, x, x))
	}
	return list
}

// allTypes is a type of each Kind that may be, likewise.
func allTypes() []api.Type {
	a := tvar("a")
	return []api.Type{
		a, tvar("_"), tvar("let"), tvar("virtual"), tvar("int"), tvar(longest),
		integer, con("bool"), con("string"), con("unit"), con("->", a, a), con("*", a, integer),
		tobj(false, nil), tobj(true, nil), tobj(true, []string{"a"}, a), tobj(false, []string{"_", "a", "aB", "aa", "b"}, a, a, a, a, a),
		tas("a", a), tas("as", tas(longest, integer)),
	}
}

func wantCheck(t *testing.T, e api.Expr, want api.Errno) {
	t.Helper()
	if got := tree.Check(e); got != want {
		t.Errorf("Check(%.200v) = %d, want %d", e, got, want)
	}
}

func wantCheckType(t *testing.T, x api.Type, want api.Errno) {
	t.Helper()
	if got := tree.CheckType(x); got != want {
		t.Errorf("CheckType(%.200v) = %d, want %d", x, got, want)
	}
	wantCheck(t, annot(v("x"), x), want)
	wantCheck(t, coerce(v("x"), integer, x), want)
	wantCheck(t, object("", member(api.Val, "x", v("x")), virtual("m", x)), want)
}

// P2.2
func TestCheckType(t *testing.T) {
	for _, x := range allTypes() {
		wantCheckType(t, x, api.OK)
		wantCheckType(t, con("->", integer, tobj(true, []string{"m"}, tas("b", x))), api.OK)
	}
}

// P2.2
func TestCheckTypeRefuses(t *testing.T) {
	a := tvar("a")
	refused := []api.Type{
		{}, {Kind: -1, S: "a"}, {Kind: 5, S: "a"}, {Kind: math.MaxInt}, {Kind: math.MinInt},
		tvar(""), tvar("A"), tvar("1"), tvar("'a"), tvar("a b"), tvar("->"), tvar(tooLong), tvar("é"),
		{Kind: api.TVar, S: "a", Args: []api.Type{a}}, {Kind: api.TVar, S: "a", Labels: []string{"a"}}, {Kind: api.TVar, S: "a", Open: true},
		badType, con(""), con("a"), con("Int"), con("int "), con(":="), con("+", a, a),
		con("int", a), con("bool", a), con("string", a, a), con("unit", a), con("->"), con("->", a), con("->", a, a, a), con("*"), con("*", a), con("*", a, a, a),
		{Kind: api.TCon, S: "int", Labels: []string{"a"}}, {Kind: api.TCon, S: "int", Open: true}, {Kind: api.TCon, S: "->", Args: []api.Type{a, a}, Labels: []string{"a", "b"}}, {Kind: api.TCon, S: "*", Args: []api.Type{a, a}, Open: true},
		tobj(false, []string{"a"}), tobj(true, []string{"a"}), tobj(false, nil, a), tobj(true, []string{"a"}, a, a), tobj(true, []string{"a", "b"}, a),
		tobj(false, []string{"b", "a"}, a, a), tobj(false, []string{"a", "a"}, a, a), tobj(false, []string{"a", "c", "b"}, a, a, a), tobj(true, []string{"aa", "aB"}, a, a),
		tobj(true, []string{""}, a), tobj(true, []string{"let"}, a), tobj(true, []string{"A"}, a), tobj(true, []string{tooLong}, a), tobj(true, []string{"a", "b c"}, a, a),
		{Kind: api.TObj, S: "a"}, {Kind: api.TObj, S: "a", Labels: []string{"a"}, Args: []api.Type{a}},
		tas("a"), tas("a", a, a), tas("", a), tas("A", a), tas(tooLong, a), {Kind: api.TAs, S: "a", Args: []api.Type{a}, Labels: []string{"a"}}, {Kind: api.TAs, S: "a", Args: []api.Type{a}, Open: true},
	}
	for _, x := range refused {
		wantCheckType(t, x, api.ErrArg)
		wantCheckType(t, con("->", integer, x), api.ErrArg)
		wantCheckType(t, tas("a", x), api.ErrArg)
		wantCheckType(t, tobj(false, []string{"a", "b"}, x, integer), api.ErrArg)
	}
}

// deepType is a type of some levels, with x the deepest.
func deepType(levels int, x api.Type) api.Type {
	for i := range levels - 1 {
		switch i % 3 {
		case 0:
			x = con("->", integer, x)
		case 1:
			x = tas("a", x)
		case 2:
			x = tobj(true, []string{"m"}, x)
		}
	}
	return x
}

// deepExpr is an expression of some levels, with e the deepest.
func deepExpr(levels int, e api.Expr) api.Expr {
	for i := 1; i < levels; i++ {
		if i%2 == 0 && i+1 < levels {
			e = object("", member(api.Method, "m", e))
			i++
		} else {
			e = app(e, v("x"))
		}
	}
	return e
}

// P2.2: how deep they may be; what may not be comes first, whatever its depth.
func TestCheckDeep(t *testing.T) {
	wantCheckType(t, deepType(api.MaxDeep, integer), api.OK)
	wantCheckType(t, deepType(api.MaxDeep+1, integer), api.ErrDeep)
	wantCheckType(t, deepType(api.MaxDeep, badType), api.ErrArg)
	wantCheckType(t, deepType(api.MaxDeep+1, badType), api.ErrArg)
	wantCheckType(t, deepType(5*api.MaxDeep, tvar("A")), api.ErrArg)
	wantCheckType(t, con("->", deepType(2*api.MaxDeep, integer), badType), api.ErrArg)
	wantCheckType(t, con("->", badType, deepType(2*api.MaxDeep, integer)), api.ErrArg)

	wantCheck(t, deepExpr(api.MaxDeep, unit()), api.OK)
	wantCheck(t, deepExpr(api.MaxDeep+1, unit()), api.ErrDeep)
	wantCheck(t, deepExpr(api.MaxDeep, v("A")), api.ErrArg)
	wantCheck(t, deepExpr(api.MaxDeep+1, v("A")), api.ErrArg)
	wantCheck(t, deepExpr(5*api.MaxDeep, with(api.Rec, "f", unit(), unit())), api.ErrArg)
	wantCheck(t, app(deepExpr(2*api.MaxDeep, unit()), v("A")), api.ErrArg)
	wantCheck(t, app(v("A"), deepExpr(2*api.MaxDeep, unit())), api.ErrArg)
	wantCheck(t, deepExpr(api.MaxDeep-1, object("", virtual("m", integer))), api.OK)
	wantCheck(t, deepExpr(api.MaxDeep, object("")), api.OK)
	wantCheck(t, deepExpr(api.MaxDeep, object("", virtual("m", integer))), api.ErrDeep)
	wantCheck(t, deepExpr(api.MaxDeep-1, object("", inherit("c", "", unit()))), api.ErrDeep)

	// A type's depth and an expression's do not add up; each is asked by itself, and what may not be in the one goes ahead of the other's depth.
	wantCheck(t, deepExpr(api.MaxDeep-1, annot(v("x"), deepType(api.MaxDeep, integer))), api.OK)
	wantCheck(t, deepExpr(api.MaxDeep-1, annot(v("x"), deepType(api.MaxDeep+1, integer))), api.ErrDeep)
	wantCheck(t, deepExpr(2*api.MaxDeep, annot(v("x"), deepType(2*api.MaxDeep, badType))), api.ErrArg)
	wantCheck(t, app(deepExpr(2*api.MaxDeep, v("x")), annot(v("x"), badType)), api.ErrArg)
	wantCheck(t, app(annot(v("x"), deepType(2*api.MaxDeep, integer)), v("A")), api.ErrArg)
	wantCheck(t, object("", virtual("m", deepType(2*api.MaxDeep, integer)), virtual("m", badType)), api.ErrArg)
}

// P2.2, P2.4
func TestCheck(t *testing.T) {
	for _, e := range allKinds() {
		wantCheck(t, e, api.OK)
		wantCheck(t, with(api.If, "", unit(), unit(), e), api.OK)
		wantCheck(t, object("s", member(api.Val, "x", e)), api.OK)
		wantCheck(t, object("s", inherit("c", "p", unit(), e)), api.OK)
		for _, part := range e.Args {
			wantCheck(t, part, api.OK)
		}
	}
}

// P2.2: what a kind hasn't, or too few or too many of what it has.
func TestCheckRefuses(t *testing.T) {
	x, f := v("x"), fun("x", v("x"))
	args := []api.Expr{x, x}
	refused := []api.Expr{
		{}, {Kind: -1, S: "x"}, {Kind: 21, S: "x"}, {Kind: math.MaxInt}, {Kind: math.MinInt},
		num(-1), num(math.MinInt64), {Kind: api.Bool, N: 2}, {Kind: api.Bool, N: -1}, {Kind: api.Text, S: strings.Repeat("a", api.MaxText+1)},
		fun("x", api.Expr{}), with(api.Fun, "x"), with(api.Fun, "x", x, x), app(x, api.Expr{}),
		with(api.If, "", x, x), with(api.If, "", x, x, x, x), with(api.Let, "x", x), with(api.Let, "x", x, x, x), with(api.Let, "x"),
		with(api.Rec, "f"), with(api.Rec, "f", f), with(api.Rec, "f", f, x, x), with(api.Rec, "f", x, f), with(api.Rec, "f", annot(f, integer), x),
		with(api.Send, "m"), with(api.Send, "m", x, x), with(api.Set, "x"), with(api.Set, "x", x, x),
		clone([]string{"x"}), clone(nil, x), clone([]string{"x", "y"}, x), clone([]string{"x"}, x, x), clone([]string{"x", "let"}, x, x), clone([]string{""}, x), clone([]string{tooLong}, x),
		annot(x), annot(x, integer, integer), coerce(x), coerce(x, integer), coerce(x, integer, integer, integer), annot(x, badType), coerce(x, badType, integer), coerce(x, integer, badType),
		{Kind: api.Annot, Types: []api.Type{integer}}, {Kind: api.Annot, Types: []api.Type{integer}, Args: args}, {Kind: api.Coerce, Types: []api.Type{integer, integer}}, {Kind: api.Coerce, Types: []api.Type{integer, integer}, Args: args},
	}
	for _, op := range []string{"", "+ ", "++", ">", "<-", "->", "x", ";", "#"} {
		refused = append(refused, with(api.Op, op, x, x))
	}
	refused = append(refused, with(api.Op, "+"), with(api.Op, "+", x), with(api.Op, "+", x, x, x))
	for _, kind := range []int{api.App, api.Pair, api.Seq} {
		refused = append(refused, with(kind, ""), with(kind, "", x), with(kind, "", x, x, x))
	}
	for _, bad := range []string{"", "let", "A", "1", "x y", "'x", "é", "x\x00", tooLong} {
		refused = append(refused, v(bad), fun(bad, x), with(api.Let, bad, x, x), with(api.Rec, bad, f, x),
			with(api.Send, bad, x), with(api.Set, bad, x), with(api.New, bad), with(api.New, bad, x))
		if bad != "" {
			refused = append(refused, object(bad))
		}
	}
	for _, e := range refused {
		wantCheck(t, e, api.ErrArg)
		wantCheck(t, with(api.Seq, "", unit(), e), api.ErrArg)
		wantCheck(t, with(api.New, "c", e, unit()), api.ErrArg)
		wantCheck(t, object("", member(api.Method, "m", e)), api.ErrArg)
		wantCheck(t, object("", inherit("c", "", unit(), e)), api.ErrArg)
	}
}

// P2.2: what isn't told of a Kind is zero.
func TestCheckRefusesMore(t *testing.T) {
	for _, e := range allKinds() {
		more := e
		switch e.Kind {
		case api.Num, api.Bool:
		default:
			more.N = 1
			wantCheck(t, more, api.ErrArg)
			more.N = -1
			wantCheck(t, more, api.ErrArg)
		}
		switch e.Kind {
		case api.Num, api.Bool, api.Unit, api.App, api.Pair, api.Seq, api.If, api.Clone, api.Annot, api.Coerce:
			more = e
			more.S = "x"
			wantCheck(t, more, api.ErrArg)
		}
		if e.Kind != api.New {
			more = e
			more.Args = append(more.Args[:len(more.Args):len(more.Args)], unit())
			wantCheck(t, more, api.ErrArg)
		}
		more = e
		more.Names = append(more.Names[:len(more.Names):len(more.Names)], "x")
		wantCheck(t, more, api.ErrArg)
		more = e
		more.Types = append(more.Types[:len(more.Types):len(more.Types)], integer)
		wantCheck(t, more, api.ErrArg)
		if e.Kind != api.Object {
			more = e
			more.Members = []api.Member{virtual("m", integer)}
			wantCheck(t, more, api.ErrArg)
		}
	}
}

// P2.2
func TestCheckMembers(t *testing.T) {
	x := v("x")
	refused := []api.Member{
		{}, {Kind: -1, Name: "x"}, {Kind: 5, Name: "x"}, {Kind: math.MaxInt, Name: "x"},
		inherit("c", "let"), inherit("c", "A"), inherit("c", tooLong), inherit("c", "p", x, v("")),
		{Kind: api.Inherit, Name: "c", Types: []api.Type{integer}}, {Kind: api.Inherit, Name: "c", As: "p", Args: []api.Expr{x}, Types: []api.Type{integer}},
		virtual("m"), virtual("m", integer, integer), virtual("m", badType), {Kind: api.Virtual, Name: "m", Types: []api.Type{integer}, As: "p"}, {Kind: api.Virtual, Name: "m", Types: []api.Type{integer}, Args: []api.Expr{x}},
	}
	for _, kind := range []int{api.Val, api.Method} {
		refused = append(refused, member(kind, "m"), member(kind, "m", x, x), member(kind, "m", v("")),
			api.Member{Kind: kind, Name: "m", As: "p", Args: []api.Expr{x}}, api.Member{Kind: kind, Name: "m", Args: []api.Expr{x}, Types: []api.Type{integer}})
	}
	for _, bad := range []string{"", "let", "A", "1", "x y", tooLong} {
		refused = append(refused, inherit(bad, ""), inherit(bad, "p", x), member(api.Val, bad, x), member(api.Method, bad, x), virtual(bad, integer))
	}
	for _, m := range refused {
		wantCheck(t, object("", m), api.ErrArg)
		wantCheck(t, object("s", inherit("c", ""), m), api.ErrArg)
		wantCheck(t, object("s", m, virtual("m", integer)), api.ErrArg)
		wantCheck(t, fun("x", object("s", m)), api.ErrArg)
	}
}

// P2.1
func TestSizeDeep(t *testing.T) {
	x := v("x")
	big := con("->", integer, con("->", integer, integer))
	sizes := []struct {
		e          api.Expr
		size, deep int
	}{
		{x, 1, 1}, {api.Expr{}, 1, 1}, {num(7), 1, 1}, {app(app(v("f"), x), v("y")), 5, 3},
		{fun("x", x), 2, 2}, {with(api.If, "", x, app(x, x), x), 6, 3}, {with(api.New, "c"), 1, 1}, {with(api.New, "c", x, x, fun("x", x)), 5, 3},
		{annot(x, big), 2, 2}, {coerce(app(x, x), big, big), 4, 3}, {clone([]string{"x", "y"}, x, x), 3, 2},
		{object(""), 1, 1}, {object("s", virtual("m", big)), 2, 2}, {object("s", inherit("c", "p")), 2, 2},
		{object("s", member(api.Val, "x", x)), 3, 3}, {object("s", virtual("m", big), inherit("c", "p", x, fun("x", x)), member(api.Val, "x", x)), 8, 4},
		{fun("x", object("s", virtual("m", big))), 3, 3}, {app(object("", member(api.Method, "m", fun("x", x))), x), 6, 5},
		{app(fun("x", fun("x", x)), object("", virtual("m", big))), 6, 4}, {app(object("", virtual("m", big)), x), 4, 3},
		// Whatever they are: by their fields, not by their Kinds.
		{api.Expr{Kind: -3, Args: []api.Expr{x, {Kind: 99, Args: []api.Expr{x}}}}, 4, 3},
		{api.Expr{Kind: api.Var, Members: []api.Member{{}, {Kind: api.Virtual, Args: []api.Expr{x, x}}}}, 5, 3},
		{api.Expr{Args: []api.Expr{x}, Members: []api.Member{{}}}, 3, 2}, {api.Expr{Args: []api.Expr{fun("x", fun("x", x))}, Members: []api.Member{{Args: []api.Expr{x}}}}, 6, 4},
	}
	for _, s := range sizes {
		if size, deep := tree.Size(s.e), tree.Deep(s.e); size != s.size || deep != s.deep {
			t.Errorf("%v: %d parts, %d deep, want %d, %d", s.e, size, deep, s.size, s.deep)
		}
	}
	for _, levels := range []int{1, 2, api.MaxDeep, api.MaxDeep + 1, 1000} {
		if deep := tree.Deep(deepExpr(levels, x)); deep != levels {
			t.Errorf("%d deep, want %d", deep, levels)
		}
	}
	wide := with(api.New, "c", make([]api.Expr, 100000)...)
	if size, deep := tree.Size(wide), tree.Deep(wide); size != 100001 || deep != 2 {
		t.Errorf("%d parts, %d deep", size, deep)
	}
}

// P2.1: each of these differs from each other one.
func TestSame(t *testing.T) {
	x := v("x")
	list := allKinds()
	list = append(list, api.Expr{}, v("y"), v("let"), num(1), num(-1), fun("y", x), fun("x", v("y")), with(api.New, "c", x, x),
		api.Expr{Kind: api.Var, S: "x", N: 1}, api.Expr{Kind: api.Var, S: "x", Args: []api.Expr{{}}}, api.Expr{Kind: api.Var, S: "x", Names: []string{""}}, api.Expr{Kind: api.Var, S: "x", Types: []api.Type{{}}}, api.Expr{Kind: api.Var, S: "x", Members: []api.Member{{}}},
		api.Expr{Kind: api.Var, Names: []string{"ab", "c"}}, api.Expr{Kind: api.Var, Names: []string{"a", "bc"}}, api.Expr{Kind: api.Var, Names: []string{"abc"}},
		clone([]string{"y"}, x), annot(x, con("bool")), annot(v("y"), integer), coerce(x, integer, tvar("b")), coerce(x, integer, con("a")), coerce(x, tvar("a"), integer),
		app(app(x, x), x), app(x, app(x, x)), app(x, v("y")), app(v("y"), x), app(fun("x", x), x), app(x, fun("x", x)))
	// Members that differ in one field, or in their order.
	for _, m := range []api.Member{
		inherit("c", ""), inherit("d", ""), inherit("c", "p"), inherit("c", "", x), inherit("c", "", v("y")), inherit("c", "", x, x),
		virtual("c", integer), virtual("c", tvar("a")), virtual("c"), virtual("c", integer, integer), member(api.Val, "c", x), member(api.Method, "c", x), {},
	} {
		list = append(list, object("s", m), object("s", m, inherit("e", "")), object("s", inherit("e", ""), m))
	}
	list = append(list, object("s", inherit("c", "", x), inherit("c", "")), object("s", inherit("c", ""), inherit("c", "", x)),
		object("s", virtual("c", integer), virtual("c")), object("s", virtual("c"), virtual("c", integer)),
		with(api.New, "c", fun("x", x), api.Expr{}), with(api.New, "c", api.Expr{}, fun("x", x)), with(api.New, "c", fun("x", api.Expr{}), api.Expr{}))
	for i, a := range list {
		for j, b := range list {
			if got := tree.Same(a, b); got != (i == j) {
				t.Errorf("Same(%.100v, %.100v) = %v", a, b, got)
			}
			if got := tree.Same(fun("x", app(v("f"), a)), fun("x", app(v("f"), b))); got != (i == j) {
				t.Errorf("of parts %.100v, %.100v: Same = %v", a, b, got)
			}
		}
	}
}

// P2.1
func TestSameType(t *testing.T) {
	a := tvar("a")
	list := allTypes()
	list = append(list, api.Type{}, tvar("b"), tvar("A"), con("a"), con("->", a), con("->", a, integer), con("->", integer, a), con("*", a, a), con("->", con("->", a, a), a), con("->", a, con("->", a, a)),
		tobj(false, []string{"a"}, a), tobj(true, []string{"b"}, a), tobj(true, []string{"a"}, integer), tobj(true, []string{"a"}), tobj(true, nil, a), tobj(true, []string{"a", "b"}, a), tobj(true, []string{"ab"}, a),
		api.Type{Kind: api.TVar, S: "a", Open: true}, api.Type{Kind: api.TVar, S: "a", Labels: []string{""}}, tas("b", a), tas("a", integer), tas("a"))
	for i, x := range list {
		for j, y := range list {
			if got := tree.SameType(x, y); got != (i == j) {
				t.Errorf("SameType(%v, %v) = %v", x, y, got)
			}
			if got := tree.SameType(con("*", a, tas("c", x)), con("*", a, tas("c", y))); got != (i == j) {
				t.Errorf("of parts %v, %v: SameType = %v", x, y, got)
			}
			if got := tree.Same(object("", virtual("m", x)), object("", virtual("m", y))); got != (i == j) {
				t.Errorf("of Virtuals of %v, %v: Same = %v", x, y, got)
			}
		}
	}
}

// P2.1, rule 3: nil and empty lists are one, within parts too.
func TestNilAndEmpty(t *testing.T) {
	emptyType := api.Type{Kind: api.TObj, Args: []api.Type{}, Labels: []string{}}
	empty := api.Expr{Kind: api.Object, Args: []api.Expr{}, Names: []string{}, Types: []api.Type{}, Members: []api.Member{{Kind: api.Inherit, Name: "c", Args: []api.Expr{}, Types: []api.Type{}}}}
	bare := object("", inherit("c", ""))
	if !tree.SameType(emptyType, tobj(false, nil)) || !tree.SameType(tas("a", tobj(false, nil)), tas("a", emptyType)) {
		t.Error("types")
	}
	if !tree.Same(empty, bare) || !tree.Same(annot(empty, emptyType), annot(bare, tobj(false, nil))) {
		t.Error("expressions")
	}
	wantCheckType(t, emptyType, api.OK)
	wantCheckType(t, api.Type{Kind: api.TCon, S: "int", Args: []api.Type{}, Labels: []string{}}, api.OK)
	wantCheck(t, empty, api.OK)
	wantCheck(t, api.Expr{Kind: api.Num, Args: []api.Expr{}, Names: []string{}, Types: []api.Type{}, Members: []api.Member{}}, api.OK)
	if tree.Size(empty) != 2 || tree.Deep(empty) != 2 || tree.Deep(api.Expr{Kind: api.Object, Args: []api.Expr{}, Members: []api.Member{}}) != 1 {
		t.Error("Size, Deep")
	}
}

// P2.3
func TestValue(t *testing.T) {
	pair := func(args ...api.Expr) api.Expr { return with(api.Pair, "", args...) }
	var done, others []api.Expr
	for _, kind := range []int{api.Num, api.Bool, api.Text, api.Unit, api.Var, api.Fun} {
		done = append(done, api.Expr{Kind: kind}, api.Expr{Kind: kind, S: "A", N: -5, Args: []api.Expr{app(v("x"), v("x"))}, Names: []string{""}, Types: []api.Type{{}}, Members: []api.Member{{}}})
	}
	done = append(done, pair(v("x"), fun("x", app(v("x"), v("x")))), annot(num(1), badType), annot(num(1)), annot(pair(annot(unit()), pair(v(""), v("")))),
		api.Expr{Kind: api.Pair, S: "x", N: 1, Args: []api.Expr{v("x"), v("x")}, Types: []api.Type{{}}, Members: []api.Member{member(api.Val, "x", app(v("x"), v("x")))}})
	for _, kind := range []int{api.App, api.Let, api.Rec, api.If, api.Op, api.Seq, api.Object, api.Send, api.Set, api.New, api.Clone, api.Coerce, 0, -1, 21, math.MaxInt, math.MinInt} {
		others = append(others, api.Expr{Kind: kind}, with(kind, "x", v("x")), with(kind, "+", v("x"), v("x")))
	}
	others = append(others, pair(), pair(v("x")), pair(v("x"), v("x"), v("x")), with(api.Annot, ""), with(api.Annot, "", v("x"), v("x")),
		api.Expr{Kind: api.Annot, Types: []api.Type{integer}, Members: []api.Member{member(api.Val, "x", v("x"))}})
	for _, e := range done {
		if !tree.Value(e) || !tree.Value(pair(e, e)) || !tree.Value(annot(e, integer)) {
			t.Errorf("%v is a value", e)
		}
	}
	for _, e := range others {
		if tree.Value(e) || tree.Value(pair(v("x"), e)) || tree.Value(pair(e, v("x"))) || tree.Value(annot(e, integer)) || tree.Value(annot(pair(v("x"), annot(e)))) {
			t.Errorf("%v is none", e)
		}
		if !tree.Value(fun("x", e)) {
			t.Errorf("a Fun of %v is a value", e)
		}
	}
}

// P2.2: the names are layer 1's.
func TestNamesAreLayer1s(t *testing.T) {
	for _, s := range []string{"x", "let", "X", "", "_", "x'", "end", "virtual", "int", tooLong, longest} {
		want := map[bool]api.Errno{true: api.OK, false: api.ErrArg}
		wantCheck(t, v(s), want[lex.IsName(s)])
		wantCheckType(t, tvar(s), want[lex.IsName(s) || lex.IsKey(s)])
	}
}
