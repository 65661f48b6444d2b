package show_test

import (
	"fmt"
	"math"
	"strconv"
	"strings"
	"testing"

	"trefoil/api"
	"trefoil/lex"
	"trefoil/parse"
	"trefoil/show"
	"trefoil/tree"
	"trefoil/typ"
)

func v(s string) api.Expr                          { return api.Expr{Kind: api.Var, S: s} }
func num(n int64) api.Expr                         { return api.Expr{Kind: api.Num, N: n} }
func text(s string) api.Expr                       { return api.Expr{Kind: api.Text, S: s} }
func unit() api.Expr                               { return api.Expr{Kind: api.Unit} }
func truth(n int64) api.Expr                       { return api.Expr{Kind: api.Bool, N: n} }
func fun(s string, e api.Expr) api.Expr            { return with(api.Fun, s, e) }
func app(a, b api.Expr) api.Expr                   { return with(api.App, "", a, b) }
func seq(a, b api.Expr) api.Expr                   { return with(api.Seq, "", a, b) }
func pair(a, b api.Expr) api.Expr                  { return with(api.Pair, "", a, b) }
func let(s string, a, b api.Expr) api.Expr         { return with(api.Let, s, a, b) }
func rec(s string, a, b api.Expr) api.Expr         { return with(api.Rec, s, a, b) }
func op(a api.Expr, s string, b api.Expr) api.Expr { return with(api.Op, s, a, b) }
func cond(a, b, c api.Expr) api.Expr               { return with(api.If, "", a, b, c) }
func set(s string, e api.Expr) api.Expr            { return with(api.Set, s, e) }
func send(e api.Expr, s string) api.Expr           { return with(api.Send, s, e) }
func neu(s string, args ...api.Expr) api.Expr      { return with(api.New, s, args...) }
func with(kind int, s string, args ...api.Expr) api.Expr {
	return api.Expr{Kind: kind, S: s, Args: args}
}
func clone(names string, args ...api.Expr) api.Expr {
	return api.Expr{Kind: api.Clone, Names: strings.Fields(names), Args: args}
}
func annot(e api.Expr, t api.Type) api.Expr {
	return api.Expr{Kind: api.Annot, Args: []api.Expr{e}, Types: []api.Type{t}}
}
func coerce(e api.Expr, t, u api.Type) api.Expr {
	return api.Expr{Kind: api.Coerce, Args: []api.Expr{e}, Types: []api.Type{t, u}}
}
func object(s string, m ...api.Member) api.Expr {
	return api.Expr{Kind: api.Object, S: s, Members: m}
}
func inherit(name, as string, args ...api.Expr) api.Member {
	return api.Member{Kind: api.Inherit, Name: name, As: as, Args: args}
}
func val(name string, e api.Expr) api.Member {
	return api.Member{Kind: api.Val, Name: name, Args: []api.Expr{e}}
}
func method(name string, e api.Expr) api.Member {
	return api.Member{Kind: api.Method, Name: name, Args: []api.Expr{e}}
}
func virtual(name string, t api.Type) api.Member {
	return api.Member{Kind: api.Virtual, Name: name, Types: []api.Type{t}}
}
func con(s string, args ...api.Type) api.Type { return api.Type{Kind: api.TCon, S: s, Args: args} }
func tvar(s string) api.Type                  { return api.Type{Kind: api.TVar, S: s} }
func tas(s string, t api.Type) api.Type {
	return api.Type{Kind: api.TAs, S: s, Args: []api.Type{t}}
}

var (
	x, y, z, f = v("x"), v("y"), v("z"), v("f")

	one, two, three  = num(1), num(2), num(3)
	integer, boolean = con("int"), con("bool")

	arrow = con("->", con("->", tvar("a"), integer), con("*", integer, tas("b", boolean)))
	open  = api.Type{Kind: api.TObj, Open: true, Labels: []string{"m", "n"}, Args: []api.Type{tvar("a"), con("->", integer, integer)}}

	longest = strings.Repeat("w", api.MaxName)
)

// A told thing is an expression, and its text.
type told struct {
	e    api.Expr
	want string
}

func phrase(e api.Expr) api.Phrase { return api.Phrase{Kind: api.PExpr, E: e} }

// wantExpr holds Expr, and Phrase of what is a phrase by itself, to a text.
func wantExpr(t *testing.T, e api.Expr, want string) {
	t.Helper()
	if s, no := show.Expr(e); s != want || no != api.OK {
		t.Errorf("Expr = %.300q, %d, want %.300q", s, no, want)
	}
	wantPhrase(t, phrase(e), want)
}

func wantPhrase(t *testing.T, p api.Phrase, want string) {
	t.Helper()
	if s, no := show.Phrase(p); s != want || no != api.OK {
		t.Errorf("Phrase = %.300q, %d, want %.300q", s, no, want)
	}
}

func wantNoExpr(t *testing.T, e api.Expr, want api.Errno) {
	t.Helper()
	if s, no := show.Expr(e); s != "" || no != want {
		t.Errorf("Expr(%s) = %.300q, %d, want %d", brief(e), s, no, want)
	}
	wantNoPhrase(t, phrase(e), want)
}

func wantNoPhrase(t *testing.T, p api.Phrase, want api.Errno) {
	t.Helper()
	if s, no := show.Phrase(p); s != "" || no != want {
		t.Errorf("Phrase(%s) = %.300q, %d, want %d", brief(p), s, no, want)
	}
}

// brief is what an expression or a phrase has, as far as a line goes.
func brief(x any) string {
	s := fmt.Sprint(x)
	return s[:min(len(s), 300)]
}

// atoms are expressions that stand by themselves.
var atoms = []told{
	{x, "x"}, {v("_"), "_"}, {v("int"), "int"}, {v(longest), longest},
	{num(0), "0"}, {num(7), "7"}, {num(1234567890), "1234567890"}, {num(math.MaxInt64), "9223372036854775807"},
	{truth(0), "false"}, {truth(1), "true"}, {unit(), "()"},
	{text(""), `""`}, {text("a b"), `"a b"`}, {text("a\nb"), `"a\nb"`}, {text("\n"), `"\n"`}, {text(`\n`), `"\\n"`}, {text(`"\`), `"\"\\"`}, {text("(* \t\x00\xff é"), "\"(* \t\x00\xff é\""},
	{pair(x, y), "(x, y)"}, {pair(pair(x, y), pair(y, z)), "((x, y), (y, z))"},
	{annot(x, integer), "(x : int)"}, {annot(annot(x, boolean), tvar("a")), "((x : bool) : 'a)"}, {annot(x, tas("b", arrow)), "(x : ('a -> int) -> int * (bool as 'b) as 'b)"}, {annot(x, open), "(x : < m : 'a ; n : int -> int ; .. >)"},
	{coerce(x, integer, boolean), "(x : int :> bool)"}, {coerce(x, open, api.Type{Kind: api.TObj}), "(x : < m : 'a ; n : int -> int ; .. > :> < >)"}, {coerce(x, tas("a", tvar("a")), tas("as", tas("b", open))), "(x : 'a as 'a :> < m : 'a ; n : int -> int ; .. > as 'b as 'as)"},
	{clone(""), "{< >}"}, {clone("x", one), "{< x = 1 >}"}, {clone("x y x", one, y, x), "{< x = 1 ; y = y ; x = x >}"},
	{object(""), "object end"}, {object("s"), "object (s) end"},
	{object("", virtual("m", open)), "object virtual m : < m : 'a ; n : int -> int ; .. > end"}, {object("", virtual("m", tas("a", integer)), virtual("n", arrow)), "object virtual m : int as 'a virtual n : ('a -> int) -> int * (bool as 'b) end"},
	{object("", inherit("c", "")), "object inherit c end"}, {object("", inherit("c", "p")), "object inherit c as p end"}, {object("", inherit("c", "", x, one)), "object inherit c x 1 end"}, {object("", inherit("c", "x", x, one)), "object inherit c x 1 as x end"},
	{object("s", val("x", one), method("m", v("s"))), "object (s) val x = 1 method m = s end"},
	{object("x", inherit("x", "x", x), val("x", x), method("x", fun("x", x)), virtual("x", tvar("x"))), "object (x) inherit x x as x val x = x method x = fun x -> x virtual x : 'x end"},
	{send(x, "m"), "x#m"}, {send(send(x, "m"), "n"), "x#m#n"}, {send(one, "m"), "1#m"}, {send(text("a"), "m"), `"a"#m`}, {send(unit(), "x"), "()#x"}, {send(object("s"), "m"), "object (s) end#m"}, {send(clone("x", one), "m"), "{< x = 1 >}#m"}, {send(pair(x, y), "m"), "(x, y)#m"},
}

// P5.1: each kind, and the chapter's own examples.
func TestExpr(t *testing.T) {
	for _, x := range atoms {
		wantExpr(t, x.e, x.want)
	}
	for _, x := range []told{
		{app(fun("x", app(f, x)), one), "(fun x -> f x) 1"},
		{seq(x, seq(y, z)), "x ; y ; z"}, {seq(seq(x, y), z), "(x ; y) ; z"},
		{let("x", one, two), "let x = 1 in 2"}, {let("x", let("y", one, two), three), "let x = let y = 1 in 2 in 3"}, {let("f", fun("x", fun("y", x)), seq(f, one)), "let f = fun x -> fun y -> x in f ; 1"}, {let("x", seq(one, two), three), "let x = 1 ; 2 in 3"},
		{rec("f", fun("x", app(f, x)), f), "let rec f = fun x -> f x in f"},
		{fun("x", fun("y", seq(x, y))), "fun x -> fun y -> x ; y"},
		{cond(x, y, z), "if x then y else z"}, {cond(seq(x, y), seq(y, z), seq(z, x)), "if x ; y then (y ; z) else (z ; x)"}, {cond(cond(x, y, z), cond(x, y, z), cond(x, y, z)), "if if x then y else z then (if x then y else z) else (if x then y else z)"}, {cond(op(x, "<", y), op(x, "=", y), op(x, "<", y)), "if x < y then x = y else x < y"},
		{set("x", one), "x <- 1"}, {set("x", set("y", one)), "x <- (y <- 1)"}, {set("x", op(one, "=", two)), "x <- 1 = 2"}, {set("x", fun("x", x)), "x <- (fun x -> x)"},
		{op(one, "+", op(two, "*", three)), "1 + 2 * 3"}, {op(op(one, "+", two), "*", three), "(1 + 2) * 3"}, {op(op(one, "-", two), "-", three), "1 - 2 - 3"}, {op(one, "-", op(two, "-", three)), "1 - (2 - 3)"}, {op(op(one, "/", two), "*", three), "1 / 2 * 3"}, {op(one, "/", op(two, "*", three)), "1 / (2 * 3)"}, {op(op(one, "<", two), "=", op(one, "=", two)), "(1 < 2) = (1 = 2)"}, {op(op(one, "+", two), "<", op(one, "-", two)), "1 + 2 < 1 - 2"},
		{app(app(f, x), y), "f x y"}, {app(f, app(x, y)), "f (x y)"}, {app(send(f, "m"), send(x, "n")), "f#m x#n"}, {send(app(f, x), "m"), "(f x)#m"}, {app(text("a"), text("b")), `"a" "b"`}, {op(app(f, x), "*", app(f, y)), "f x * f y"},
		{neu("c"), "new c"}, {neu("c", x, one, send(y, "m")), "new c x 1 y#m"}, {neu("c", app(f, x), neu("d")), "new c (f x) (new d)"}, {app(neu("c"), x), "(new c) x"}, {app(neu("c", x), y), "(new c x) y"}, {app(app(neu("c"), x), y), "(new c) x y"}, {app(f, neu("c")), "f (new c)"}, {send(neu("c"), "m"), "(new c)#m"}, {op(neu("c", x), "*", neu("c")), "new c x * new c"}, {app(app(f, neu("c")), x), "f (new c) x"},
		{object("", inherit("c", "p", app(f, x), neu("c"), send(x, "m"))), "object inherit c (f x) (new c) x#m as p end"}, {object("", val("x", seq(one, two)), method("m", fun("x", seq(x, y)))), "object val x = 1 ; 2 method m = fun x -> x ; y end"},
		{clone("x y", seq(one, two), fun("x", x)), "{< x = (1 ; 2) ; y = (fun x -> x) >}"}, {clone("x y", op(one, "<", two), let("x", one, x)), "{< x = 1 < 2 ; y = (let x = 1 in x) >}"},
		{pair(seq(x, y), fun("x", x)), "(x ; y, fun x -> x)"}, {annot(seq(x, y), integer), "(x ; y : int)"}, {coerce(let("x", one, x), integer, boolean), "(let x = 1 in x : int :> bool)"},
	} {
		wantExpr(t, x.e, x.want)
	}
}

// P5.1: the four kinds of phrases.
func TestPhrase(t *testing.T) {
	for _, x := range []struct {
		p    api.Phrase
		want string
	}{
		{api.Phrase{Kind: api.PExpr, E: let("x", one, x)}, "let x = 1 in x"}, {api.Phrase{Kind: api.PExpr, E: rec("f", fun("x", x), f)}, "let rec f = fun x -> x in f"}, {api.Phrase{Kind: api.PExpr, E: object("s")}, "object (s) end"}, {api.Phrase{Kind: api.PExpr, E: one, Names: []string{}}, "1"},
		{api.Phrase{Kind: api.PLet, Name: "x", E: one}, "let x = 1"}, {api.Phrase{Kind: api.PLet, Name: longest, E: seq(one, two)}, "let " + longest + " = 1 ; 2"}, {api.Phrase{Kind: api.PLet, Name: "x", E: let("y", one, y)}, "let x = let y = 1 in y"}, {api.Phrase{Kind: api.PLet, Name: "f", E: fun("x", fun("y", x))}, "let f = fun x -> fun y -> x"}, {api.Phrase{Kind: api.PLet, Name: "f", E: object("s")}, "let f = object (s) end"},
		{api.Phrase{Kind: api.PRec, Name: "f", E: fun("x", seq(x, y))}, "let rec f = fun x -> x ; y"}, {api.Phrase{Kind: api.PRec, Name: "f", E: fun("x", let("y", one, y))}, "let rec f = fun x -> let y = 1 in y"},
		{api.Phrase{Kind: api.PClass, Name: "c", E: object("")}, "class c = object end"}, {api.Phrase{Kind: api.PClass, Name: "c", Names: []string{}, E: object("s")}, "class c = object (s) end"}, {api.Phrase{Kind: api.PClass, Name: "c", Names: []string{"x", "y", "x"}, E: object("s", val("v", x), method("get", v("v")))}, "class c x y x = object (s) val v = x method get = v end"},
	} {
		wantPhrase(t, x.p, x.want)
	}
}

// A hole is a place of a level within an expression; its text has a % there.
type hole struct {
	text  string
	level int
	fill  func(e api.Expr) api.Expr
}

// holes are all places of all kinds, by the chapter's levels.
var holes = []hole{
	{"% ; z", 2, func(e api.Expr) api.Expr { return seq(e, z) }}, {"z ; %", 0, func(e api.Expr) api.Expr { return seq(z, e) }},
	{"let a = % in z", 0, func(e api.Expr) api.Expr { return let("a", e, z) }}, {"let a = z in %", 0, func(e api.Expr) api.Expr { return let("a", z, e) }},
	{"let rec a = fun b -> % in z", 0, func(e api.Expr) api.Expr { return rec("a", fun("b", e), z) }}, {"let rec a = fun b -> z in %", 0, func(e api.Expr) api.Expr { return rec("a", fun("b", z), e) }},
	{"fun a -> %", 0, func(e api.Expr) api.Expr { return fun("a", e) }},
	{"if % then y else z", 0, func(e api.Expr) api.Expr { return cond(e, y, z) }}, {"if y then % else z", 2, func(e api.Expr) api.Expr { return cond(y, e, z) }}, {"if y then z else %", 2, func(e api.Expr) api.Expr { return cond(y, z, e) }},
	{"a <- %", 2, func(e api.Expr) api.Expr { return set("a", e) }},
	{"% = z", 3, func(e api.Expr) api.Expr { return op(e, "=", z) }}, {"z = %", 3, func(e api.Expr) api.Expr { return op(z, "=", e) }}, {"% < z", 3, func(e api.Expr) api.Expr { return op(e, "<", z) }}, {"z < %", 3, func(e api.Expr) api.Expr { return op(z, "<", e) }},
	{"% + z", 3, func(e api.Expr) api.Expr { return op(e, "+", z) }}, {"z + %", 4, func(e api.Expr) api.Expr { return op(z, "+", e) }}, {"% - z", 3, func(e api.Expr) api.Expr { return op(e, "-", z) }}, {"z - %", 4, func(e api.Expr) api.Expr { return op(z, "-", e) }},
	{"% * z", 4, func(e api.Expr) api.Expr { return op(e, "*", z) }}, {"z * %", 5, func(e api.Expr) api.Expr { return op(z, "*", e) }}, {"% / z", 4, func(e api.Expr) api.Expr { return op(e, "/", z) }}, {"z / %", 5, func(e api.Expr) api.Expr { return op(z, "/", e) }},
	{"% z", 5, func(e api.Expr) api.Expr { return app(e, z) }}, {"z %", 6, func(e api.Expr) api.Expr { return app(z, e) }}, {"(new a) %", 6, func(e api.Expr) api.Expr { return app(neu("a"), e) }},
	{"new a %", 6, func(e api.Expr) api.Expr { return neu("a", e) }}, {"new a % z", 6, func(e api.Expr) api.Expr { return neu("a", e, z) }}, {"new a z %", 6, func(e api.Expr) api.Expr { return neu("a", z, e) }},
	{"%#m", 6, func(e api.Expr) api.Expr { return send(e, "m") }},
	{"(%, z)", 0, func(e api.Expr) api.Expr { return pair(e, z) }}, {"(z, %)", 0, func(e api.Expr) api.Expr { return pair(z, e) }},
	{"(% : int)", 0, func(e api.Expr) api.Expr { return annot(e, integer) }}, {"(% : int :> bool)", 0, func(e api.Expr) api.Expr { return coerce(e, integer, boolean) }},
	{"{< a = % >}", 2, func(e api.Expr) api.Expr { return clone("a", e) }}, {"{< a = % ; b = z >}", 2, func(e api.Expr) api.Expr { return clone("a b", e, z) }}, {"{< a = z ; b = % >}", 2, func(e api.Expr) api.Expr { return clone("a b", z, e) }},
	{"object inherit a % end", 6, func(e api.Expr) api.Expr { return object("", inherit("a", "", e)) }}, {"object (s) inherit a % z as p end", 6, func(e api.Expr) api.Expr { return object("s", inherit("a", "p", e, z)) }}, {"object inherit a z % inherit b end", 6, func(e api.Expr) api.Expr { return object("", inherit("a", "", z, e), inherit("b", "")) }},
	{"object val a = % end", 0, func(e api.Expr) api.Expr { return object("", val("a", e)) }}, {"object (s) method a = % method b = z end", 0, func(e api.Expr) api.Expr { return object("s", method("a", e), method("b", z)) }}, {"object virtual a : int val a = % virtual a : int end", 0, func(e api.Expr) api.Expr {
		return object("", virtual("a", integer), val("a", e), virtual("a", integer))
	}},
}

// own is an expression's own level, as the chapter tells it of the kinds.
func own(e api.Expr) int {
	if e.Kind == api.Op {
		return map[string]int{"=": 2, "<": 2, "+": 3, "-": 3, "*": 4, "/": 4}[e.S]
	}
	if level, ok := map[int]int{api.Seq: 0, api.Let: 1, api.Rec: 1, api.Fun: 1, api.If: 1, api.Set: 1, api.App: 5, api.New: 5}[e.Kind]; ok {
		return level
	}
	return 6
}

// filled is what a hole's expression is, and its text, with x in it.
func filled(h hole, x told) told {
	s := x.want
	if own(x.e) < h.level || h.text == "% z" && x.e.Kind == api.New {
		s = "(" + s + ")"
	}
	return told{h.fill(x.e), strings.Replace(h.text, "%", s, 1)}
}

// P5.1: each kind at each place, and each of these at each place.
func TestLevels(t *testing.T) {
	for _, h := range holes {
		for _, a := range atoms {
			wantExpr(t, filled(h, a).e, filled(h, a).want)
		}
		for _, inner := range holes {
			for _, e := range []told{{x, "x"}, {seq(x, y), "x ; y"}, {neu("c"), "new c"}} {
				a := filled(h, filled(inner, e))
				wantExpr(t, a.e, a.want)
			}
		}
	}
}

// P5.1: each place that a level stands at in a phrase.
func TestLevelsOfPhrases(t *testing.T) {
	for _, h := range holes {
		a := filled(h, told{x, "x"})
		wantPhrase(t, api.Phrase{Kind: api.PLet, Name: "a", E: a.e}, "let a = "+a.want)
		wantPhrase(t, api.Phrase{Kind: api.PRec, Name: "a", E: fun("b", a.e)}, "let rec a = fun b -> "+a.want)
		wantPhrase(t, api.Phrase{Kind: api.PClass, Name: "a", E: object("", val("b", a.e))}, "class a = object val b = "+a.want+" end")
	}
}

// P5.1: a Text's text is layer 1's as long as that one has one.
func TestText(t *testing.T) {
	a, n := strings.Repeat("a", api.MaxText), strings.Repeat("\n\"\\", api.MaxText)
	for _, s := range []string{a[:api.MaxText-2], a[:api.MaxText-3], n[:api.MaxText/2-1], n[:api.MaxText/2-2], "a" + n[:api.MaxText/2-2], a[:api.MaxText/2-2] + "\n" + a[:1000], a[:api.MaxText/2-1] + "\"" + a[:1000], a[:api.MaxText-4] + "\\"} {
		want, no := lex.Put(api.Token{Kind: api.Str, S: s})
		if no != api.OK {
			t.Fatal(no)
		}
		wantExpr(t, text(s), want)
		wantExpr(t, fun("x", text(s)), "fun x -> "+want)
	}
	for _, s := range []string{a, a[:api.MaxText-1], n[:api.MaxText], n[:api.MaxText/2]} {
		if _, no := lex.Put(api.Token{Kind: api.Str, S: s}); no == api.OK {
			t.Fatal("it is put")
		}
		show.Expr(app(f, text(s))) // nothing is promised but that it ends
		show.Phrase(phrase(text(s)))
	}
	wantNoExpr(t, text(a+"a"), api.ErrArg)
}

// P5.1: what may not be.
func TestNoExpr(t *testing.T) {
	for _, e := range []api.Expr{
		{}, {Kind: -1}, {Kind: 21}, v(""), v("let"), v("X"), v("x y"), v(longest + "w"), num(-1), truth(2), truth(-1), {Kind: api.Var, S: "x", N: 1}, {Kind: api.Num, S: "x"}, {Kind: api.Unit, Args: []api.Expr{x}}, {Kind: api.Text, Names: []string{"x"}},
		fun("x", api.Expr{}), with(api.Fun, "x"), with(api.Fun, "x", x, y), fun("", x), with(api.App, ""), with(api.App, "", neu("c")), with(api.App, "x", x, y), with(api.Seq, "", x), with(api.Pair, "", x, y, z), with(api.Let, "x", one), let("in", x, y), rec("f", x, f), with(api.Rec, "f"), with(api.If, "", x, y), op(x, "", y), op(x, ">", y), op(x, "x", y), with(api.Op, "+", x), with(api.Send, "m"), send(x, "end"), with(api.Set, "x"), set("", x), neu(""), neu("new", x),
		clone("x"), clone("", x), clone("let", x), with(api.Annot, "", x), {Kind: api.Annot, Types: []api.Type{integer}}, annot(x, api.Type{}), annot(x, con("foo")), annot(x, api.Type{Kind: api.TObj, Labels: []string{"m", "m"}, Args: []api.Type{integer, integer}}), coerce(x, integer, tvar("")), {Kind: api.Coerce, Args: []api.Expr{x}, Types: []api.Type{integer}},
		object("end"), object("", api.Member{}), object("", api.Member{Kind: 5, Name: "x"}), object("", inherit("", "")), object("", inherit("c", "as")), object("", val("", x)), object("", api.Member{Kind: api.Val, Name: "x"}), object("", api.Member{Kind: api.Method, Name: "x", As: "y", Args: []api.Expr{x}}), object("", virtual("x", tvar("X"))), object("", api.Member{Kind: api.Virtual, Name: "x"}), object("", inherit("c", "", api.Expr{})), object("", val("x", send(x, "1"))),
	} {
		wantNoExpr(t, e, api.ErrArg)
		wantNoExpr(t, app(one, send(e, "m")), api.ErrArg)
		wantNoExpr(t, object("", method("m", e)), api.ErrArg)
		wantNoPhrase(t, api.Phrase{Kind: api.PLet, Name: "x", E: e}, api.ErrArg)
	}
}

// within is x within so many parts as fill makes them.
func within(parts int, fill func(api.Expr) api.Expr) api.Expr {
	e := x
	for range parts {
		e = fill(e)
	}
	return e
}

// deepest is how many parts as fill makes them may stand one within the other.
func deepest(fill func(api.Expr) api.Expr) int {
	parts := 0
	for e := fill(x); tree.Deep(e) <= api.MaxDeep; e = fill(e) {
		parts++
	}
	return parts
}

func deepType(levels int) api.Type {
	t := integer
	for range levels - 1 {
		t = con("->", t, integer)
	}
	return t
}

// P5.1: what is as deep as may be, and what is deeper; what may not be is told ahead of that.
func TestDeep(t *testing.T) {
	const long = 100 * api.MaxDeep
	for _, h := range holes {
		parts := deepest(h.fill)
		a := told{x, "x"}
		for range parts {
			a = filled(h, a)
		}
		wantExpr(t, a.e, a.want)
		for _, parts := range []int{parts + 1, long} {
			e := within(parts, h.fill)
			wantNoExpr(t, e, api.ErrDeep)
			wantNoExpr(t, app(e, api.Expr{}), api.ErrArg)
			wantNoExpr(t, api.Expr{Kind: api.Object, N: 1, Members: []api.Member{val("x", e)}}, api.ErrArg)
		}
	}
	wantExpr(t, within(api.MaxDeep-1, func(e api.Expr) api.Expr { return send(e, "m") }), "x"+strings.Repeat("#m", api.MaxDeep-1))
	put, _ := typ.Put(deepType(api.MaxDeep))
	wantExpr(t, annot(x, deepType(api.MaxDeep)), "(x : "+put+")")
	for _, e := range []api.Expr{annot(x, deepType(api.MaxDeep+1)), coerce(x, integer, deepType(long)), object("", virtual("m", deepType(api.MaxDeep+1)))} {
		wantNoExpr(t, e, api.ErrDeep)
		wantNoExpr(t, app(e, api.Expr{}), api.ErrArg)
	}
}

// P5.1: phrases that may not be; what layer 2 says of the expression is told ahead of the phrase's own.
func TestNoPhrase(t *testing.T) {
	o := object("")
	for _, p := range []api.Phrase{
		{}, {E: x}, {Kind: -1, E: x}, {Kind: 5, Name: "x", E: x}, {Kind: api.PExpr}, {Kind: api.PExpr, Name: "x", E: x}, {Kind: api.PExpr, Names: []string{"x"}, E: x},
		{Kind: api.PLet, E: x}, {Kind: api.PLet, Name: "let", E: x}, {Kind: api.PLet, Name: longest + "w", E: x}, {Kind: api.PLet, Name: "x", Names: []string{"y"}, E: x}, {Kind: api.PLet, Name: "x"},
		{Kind: api.PRec, Name: "f", E: x}, {Kind: api.PRec, E: fun("x", x)}, {Kind: api.PRec, Name: "f", Names: []string{"x"}, E: fun("x", x)}, {Kind: api.PRec, Name: "f", E: annot(fun("x", x), integer)},
		{Kind: api.PClass, Name: "c", E: x}, {Kind: api.PClass, E: o}, {Kind: api.PClass, Name: "class", E: o}, {Kind: api.PClass, Name: "c", Names: []string{""}, E: o}, {Kind: api.PClass, Name: "c", Names: []string{"x", "end"}, E: o}, {Kind: api.PClass, Name: "c", E: object("s", api.Member{})},
	} {
		wantNoPhrase(t, p, api.ErrArg)
	}
	e := within(api.MaxDeep, func(e api.Expr) api.Expr { return fun("x", e) })
	for kind := -1; kind < 6; kind++ {
		wantNoPhrase(t, api.Phrase{Kind: kind, Name: "x", E: e}, api.ErrDeep)
		wantNoPhrase(t, api.Phrase{Kind: kind, Name: "let", E: e}, api.ErrDeep)
	}
	if no := parse.Check(api.Phrase{Kind: api.PLet, E: e}); no != api.ErrDeep {
		t.Error(no)
	}
}

// P1: what is wide is told whole.
func TestWide(t *testing.T) {
	const n = 100000
	args, names := make([]api.Expr, n), make([]string, n)
	members := make([]api.Member, n)
	for i := range n {
		s := "x" + strconv.Itoa(i)
		args[i], names[i], members[i] = v(s), s, virtual(s, integer)
	}
	all := strings.Join(names, " ")
	wantExpr(t, neu("c", args...), "new c "+all)
	wantExpr(t, object("", inherit("c", "p", args...)), "object inherit c "+all+" as p end")
	wantExpr(t, object("s", members...), "object (s) virtual "+strings.Join(names, " : int virtual ")+" : int end")
	wantPhrase(t, api.Phrase{Kind: api.PClass, Name: "c", Names: names, E: object("")}, "class c "+all+" = object end")
	for i, s := range names {
		names[i] = s + " = " + s
	}
	wantExpr(t, clone(all, args...), "{< "+strings.Join(names, " ; ")+" >}")
}
