package parse_test

import (
	"fmt"
	"math"
	"reflect"
	"strings"
	"testing"

	"trefoil/api"
	"trefoil/parse"
	"trefoil/tree"
)

func v(s string) api.Expr                          { return api.Expr{Kind: api.Var, S: s} }
func num(n int64) api.Expr                         { return api.Expr{Kind: api.Num, N: n} }
func text(s string) api.Expr                       { return api.Expr{Kind: api.Text, S: s} }
func unit() api.Expr                               { return api.Expr{Kind: api.Unit} }
func fun(s string, e api.Expr) api.Expr            { return with(api.Fun, s, e) }
func app(a, b api.Expr) api.Expr                   { return with(api.App, "", a, b) }
func seq(a, b api.Expr) api.Expr                   { return with(api.Seq, "", a, b) }
func pair(a, b api.Expr) api.Expr                  { return with(api.Pair, "", a, b) }
func let(s string, a, b api.Expr) api.Expr         { return with(api.Let, s, a, b) }
func rec(s string, a, b api.Expr) api.Expr         { return with(api.Rec, s, a, b) }
func op(a api.Expr, s string, b api.Expr) api.Expr { return with(api.Op, s, a, b) }
func cond(a, b, c api.Expr) api.Expr               { return with(api.If, "", a, b, c) }
func set(s string, e api.Expr) api.Expr            { return with(api.Set, s, e) }
func send(e api.Expr, s string) api.Expr           { return with(api.Send, s, e) }
func with(kind int, s string, args ...api.Expr) api.Expr {
	return api.Expr{Kind: kind, S: s, Args: args}
}
func truth(n int64) api.Expr { return api.Expr{Kind: api.Bool, N: n} }
func clone(names string, args ...api.Expr) api.Expr {
	return api.Expr{Kind: api.Clone, Names: strings.Fields(names), Args: args}
}
func annot(e api.Expr, t api.Type) api.Expr {
	return api.Expr{Kind: api.Annot, Args: []api.Expr{e}, Types: []api.Type{t}}
}
func coerce(e api.Expr, t, u api.Type) api.Expr {
	return api.Expr{Kind: api.Coerce, Args: []api.Expr{e}, Types: []api.Type{t, u}}
}
func object(s string, m ...api.Member) api.Expr {
	return api.Expr{Kind: api.Object, S: s, Members: m}
}
func inherit(name, as string, args ...api.Expr) api.Member {
	return api.Member{Kind: api.Inherit, Name: name, As: as, Args: args}
}
func val(name string, e api.Expr) api.Member {
	return api.Member{Kind: api.Val, Name: name, Args: []api.Expr{e}}
}
func method(name string, e api.Expr) api.Member {
	return api.Member{Kind: api.Method, Name: name, Args: []api.Expr{e}}
}
func virtual(name string, t api.Type) api.Member {
	return api.Member{Kind: api.Virtual, Name: name, Types: []api.Type{t}}
}
func con(s string, args ...api.Type) api.Type { return api.Type{Kind: api.TCon, S: s, Args: args} }
func tvar(s string) api.Type                  { return api.Type{Kind: api.TVar, S: s} }
func tas(s string, t api.Type) api.Type {
	return api.Type{Kind: api.TAs, S: s, Args: []api.Type{t}}
}

var (
	x, y, z, f = v("x"), v("y"), v("z"), v("f")

	one, two, three  = num(1), num(2), num(3)
	integer, boolean = con("int"), con("bool")

	longest = strings.Repeat("w", api.MaxName)
)

func phrase(e api.Expr) api.Phrase { return api.Phrase{Kind: api.PExpr, E: e} }

func samePhrase(a, b api.Phrase) bool {
	return a.Kind == b.Kind && a.Name == b.Name && fmt.Sprint(a.Names) == fmt.Sprint(b.Names) && tree.Same(a.E, b.E)
}

// wantExpr holds both Expr and Parse to an expression, in brackets, too (P4.3).
func wantExpr(t *testing.T, s string, want api.Expr) {
	t.Helper()
	for _, s := range []string{s, "(" + s + ")", " ( (* ( *)\n(" + s + " )\t)\r"} {
		if e, at, no := parse.Expr(s); no != api.OK || at != 0 || !tree.Same(e, want) {
			t.Errorf("Expr(%.300q) = %.90v, %d, %d, want %.90v", s, e, at, no, want)
		}
		wantPhrase(t, s, phrase(want))
	}
}

func wantPhrase(t *testing.T, s string, want api.Phrase) {
	t.Helper()
	p, at, no := parse.Parse(s)
	if no != api.OK || at != 0 || !samePhrase(p, want) {
		t.Errorf("Parse(%.300q) = %.90v, %d, %d, want %.90v", s, p, at, no, want)
	}
	if no := parse.Check(p); no != api.OK {
		t.Errorf("Check of Parse(%.300q): %d", s, no)
	}
}

func wantNoPhrase(t *testing.T, s string, place int, want api.Errno) {
	t.Helper()
	if p, at, no := parse.Parse(s); no != want || at != place || !reflect.DeepEqual(p, api.Phrase{}) {
		t.Errorf("Parse(%.300q) = %.90v, %d, %d, want none, %d, %d", s, p, at, no, place, want)
	}
}

func wantNoExpr(t *testing.T, s string, place int, want api.Errno) {
	t.Helper()
	if e, at, no := parse.Expr(s); no != want || at != place || !reflect.DeepEqual(e, api.Expr{}) {
		t.Errorf("Expr(%.300q) = %.90v, %d, %d, want none, %d, %d", s, e, at, no, place, want)
	}
}

// marked is a text without its mark ^, and where that stood.
func marked(t *testing.T, s string) (string, int) {
	t.Helper()
	if strings.Count(s, "^") != 1 {
		t.Fatalf("%q has not one mark", s)
	}
	return strings.Replace(s, "^", "", 1), strings.Index(s, "^")
}

// P4.1: the four kinds of phrases.
func TestPhrases(t *testing.T) {
	empty := object("")
	for s, want := range map[string]api.Phrase{
		"x":             phrase(x),
		"let f x = x#m": {Kind: api.PLet, Name: "f", E: fun("x", send(x, "m"))}, "let x = 1": {Kind: api.PLet, Name: "x", E: one}, "let f x y x = z": {Kind: api.PLet, Name: "f", E: fun("x", fun("y", fun("x", z)))},
		"let x = 1 ; 2": {Kind: api.PLet, Name: "x", E: seq(one, two)}, "let x = let y = 1 in y": {Kind: api.PLet, Name: "x", E: let("y", one, y)}, "let x = (let y = 1 in y)": {Kind: api.PLet, Name: "x", E: let("y", one, y)},
		"let rec f x = f": {Kind: api.PRec, Name: "f", E: fun("x", f)}, "let rec f = fun x -> x ; y": {Kind: api.PRec, Name: "f", E: fun("x", seq(x, y))}, "let rec f = ((fun x -> x))": {Kind: api.PRec, Name: "f", E: fun("x", x)},
		"let rec f x y = let rec g = fun z -> z in 1": {Kind: api.PRec, Name: "f", E: fun("x", fun("y", rec("g", fun("z", z), one)))},
		"let x = 1 in x": phrase(let("x", one, x)), "let x = 1 ; 2 in x ; y": phrase(let("x", seq(one, two), seq(x, y))), "let f x y = 1 in let z = 2": {}, "let rec f x = 1 in f": phrase(rec("f", fun("x", one), f)),
		"let x = let y = 1 in 2 in 3": phrase(let("x", let("y", one, two), three)), "let x = 1 in let y = 2 in 3": phrase(let("x", one, let("y", two, three))),
		"class c = object end": {Kind: api.PClass, Name: "c", E: empty}, "class c x y x = object end": {Kind: api.PClass, Name: "c", Names: []string{"x", "y", "x"}, E: empty},
		"class c x = object (s) val v = x method get = v end": {Kind: api.PClass, Name: "c", Names: []string{"x"}, E: object("s", val("v", x), method("get", v("v")))},
		"object end": phrase(empty), "class " + longest + "=object end": {Kind: api.PClass, Name: longest, E: empty},
	} {
		if want.Kind == 0 {
			wantNoPhrase(t, s, len(s), api.ErrForm)
			continue
		}
		wantPhrase(t, s, want)
		wantPhrase(t, "(**) \t"+strings.ReplaceAll(s, " ", "\r\n (* let x \"\n (* *) ")+"\n", want)
	}
}

// P4.1: atoms.
func TestAtoms(t *testing.T) {
	for s, want := range map[string]api.Expr{
		"0": num(0), "9223372036854775807": num(math.MaxInt64), "007": num(7), `""`: text(""), `"a\n\\\""`: text("a\n\\\""), "true": truth(1), "false": truth(0), "_": v("_"), longest: v(longest), "int": v("int"),
		"()": unit(), "( (* *) )": unit(), "(x)": x, "(x, y)": pair(x, y), "(x ; y, z ; 1)": pair(seq(x, y), seq(z, one)), "((x, y), z)": pair(pair(x, y), z), "(x, (y, z))": pair(x, pair(y, z)), "(fun x -> x, y)": pair(fun("x", x), y),
		"(x : int)": annot(x, integer), "(x ; y : int)": annot(seq(x, y), integer), "(fun x -> x : 'a -> int as 'b)": annot(fun("x", x), tas("b", con("->", tvar("a"), integer))), "(x:<m:int;..>)": annot(x, api.Type{Kind: api.TObj, Open: true, Labels: []string{"m"}, Args: []api.Type{integer}}),
		"(x : int :> bool)": coerce(x, integer, boolean), "(x:int:>bool)": coerce(x, integer, boolean), "(x : int as 'a :> bool * int)": coerce(x, tas("a", integer), con("*", boolean, integer)), "((x : int) : int :> int)": coerce(annot(x, integer), integer, integer), "(x : (int) :> (< >))": coerce(x, integer, api.Type{Kind: api.TObj}),
		"{< >}": clone(""), "{<>}": clone(""), "{< x = 1 >}": clone("x", one), "{< x = 1 ; y = 2 ; x = 3 >}": clone("x y x", one, two, three), "{< x = y = z >}": clone("x", op(y, "=", z)), "{< x = y <- z ; y = if x then y else z >}": clone("x y", set("y", z), cond(x, y, z)),
		"{< x = (1 ; 2) >}": clone("x", seq(one, two)), "{< x = fun y -> y ; z = 1 >}": clone("x", fun("y", seq(y, op(z, "=", one)))), "{< x = let y = 1 in y ; z = 1 >}": clone("x", let("y", one, seq(y, op(z, "=", one)))), "{< x = {< y = {< >} >} >}": clone("x", clone("y", clone(""))),
	} {
		wantExpr(t, s, want)
	}
}

// P4.1: an object's members.
func TestObjects(t *testing.T) {
	for s, want := range map[string]api.Expr{
		"object end": object(""), "object (s) end": object("s"), "object(s)end": object("s"),
		"object inherit c end": object("", inherit("c", "")), "object inherit c as p end": object("", inherit("c", "p")), "object inherit c x 1 (y z) as p inherit d x#m end": object("", inherit("c", "p", x, one, app(y, z)), inherit("d", "", send(x, "m"))),
		"object inherit c object end {< >} \"\" true () end": object("", inherit("c", "", object(""), clone(""), text(""), truth(1), unit())), "object inherit c false as p end": object("", inherit("c", "p", truth(0))),
		"object val x = 1 end": object("", val("x", one)), "object val x = 1 ; 2 val y = fun x -> x end": object("", val("x", seq(one, two)), val("y", fun("x", x))), "object val x = y = z end": object("", val("x", op(y, "=", z))), "object val x = y <- z end": object("", val("x", set("y", z))),
		"object method m = 1 end": object("", method("m", one)), "object method m x y = x y method x = y end": object("", method("m", fun("x", fun("y", app(x, y)))), method("x", y)), "object method m x = fun y -> z end": object("", method("m", fun("x", fun("y", z)))), "object method m x = 1 method m = 2 val m = 3 end": object("", method("m", fun("x", one)), method("m", two), val("m", three)),
		"object virtual m : int end": object("", virtual("m", integer)), "object virtual m : int -> bool as 'a virtual n : 'a end": object("", virtual("m", tas("a", con("->", integer, boolean))), virtual("n", tvar("a"))),
		"object (s) method me = s end": object("s", method("me", v("s"))), "object val o = object (s) virtual m : int end end": object("", val("o", object("s", virtual("m", integer)))), "object method m = object method n x = x end method o = 1 end": object("", method("m", object("", method("n", fun("x", x)))), method("o", one)),
	} {
		wantExpr(t, s, want)
		wantExpr(t, s+"#m", send(want, "m"))
		wantExpr(t, "f "+s+" 1", app(app(f, want), one))
		wantPhrase(t, "class x y = "+s, api.Phrase{Kind: api.PClass, Name: "x", Names: []string{"y"}, E: want})
	}
}

// P4.1: what stands behind what, and how far each goes.
func TestLevels(t *testing.T) {
	for s, want := range map[string]api.Expr{
		"x ; y": seq(x, y), "x ; y ; z": seq(x, seq(y, z)), "(x ; y) ; z": seq(seq(x, y), z),
		"x = y": op(x, "=", y), "x < y": op(x, "<", y), "(x = y) = z": op(op(x, "=", y), "=", z), "x < (y = z)": op(x, "<", op(y, "=", z)), "x + 1 = y - 1": op(op(x, "+", one), "=", op(y, "-", one)), "x = 1 ; y < 2": seq(op(x, "=", one), op(y, "<", two)),
		"x + y": op(x, "+", y), "x - y + z": op(op(x, "-", y), "+", z), "x + y - z": op(op(x, "+", y), "-", z), "x - (y + z)": op(x, "-", op(y, "+", z)), "1 - 2 - 3": op(op(one, "-", two), "-", three),
		"x * y": op(x, "*", y), "x / y * z": op(op(x, "/", y), "*", z), "x / (y * z)": op(x, "/", op(y, "*", z)), "x + y * z": op(x, "+", op(y, "*", z)), "x * y + z": op(op(x, "*", y), "+", z), "x * (y + z)": op(x, "*", op(y, "+", z)), "1 - 2 * x y / 3 + 1 < 2": op(op(op(one, "-", op(op(two, "*", app(x, y)), "/", three)), "+", one), "<", two),
		"f x": app(f, x), "f x y z": app(app(app(f, x), y), z), "f (x y)": app(f, app(x, y)), "f x * f y": op(app(f, x), "*", app(f, y)), "f 1 true () \"\" {< >}": app(app(app(app(app(f, one), truth(1)), unit()), text("")), clone("")), "1 2": app(one, two), "f -1": op(f, "-", one),
		"x#m": send(x, "m"), "x#m#n": send(send(x, "m"), "n"), "f x#m": app(f, send(x, "m")), "(f x)#m": send(app(f, x), "m"), "x#m y#n": app(send(x, "m"), send(y, "n")), "1#m": send(one, "m"), "x # m": send(x, "m"), "()#m": send(unit(), "m"), "{< >}#m": send(clone(""), "m"),
		"new c": with(api.New, "c"), "new c x 1#m (f y)": with(api.New, "c", x, send(one, "m"), app(f, y)), "(new c x) y": app(with(api.New, "c", x), y), "(new c)#m": send(with(api.New, "c"), "m"), "new c * new c + new c = new c": op(op(op(with(api.New, "c"), "*", with(api.New, "c")), "+", with(api.New, "c")), "=", with(api.New, "c")), "f (new c)": app(f, with(api.New, "c")),
		"let x = 1 in 2": let("x", one, two), "x ; let y = 1 in y ; z": seq(x, let("y", one, seq(y, z))), "let f x y = z in f": let("f", fun("x", fun("y", z)), f), "let f x = fun y -> z in f": let("f", fun("x", fun("y", z)), f), "let x = x <- 1 in x = 1": let("x", set("x", one), op(x, "=", one)), "(let x = 1 in x) ; y": seq(let("x", one, x), y),
		"let rec f x = f x in f 1": rec("f", fun("x", app(f, x)), app(f, one)), "x ; let rec f = fun x -> x in f": seq(x, rec("f", fun("x", x), f)), "let rec f = (fun x -> x) in 1 ; 2": rec("f", fun("x", x), seq(one, two)), "let rec f x = let rec f = fun y -> y in x in y": rec("f", fun("x", rec("f", fun("y", y), x)), y),
		"fun x -> x": fun("x", x), "fun x y z -> x ; y": fun("x", fun("y", fun("z", seq(x, y)))), "fun x -> fun x -> x = 1": fun("x", fun("x", op(x, "=", one))), "(fun x -> f x) 1": app(fun("x", app(f, x)), one), "fun x -> let y = x in y ; fun z -> z": fun("x", let("y", x, seq(y, fun("z", z)))),
		"if x then y else z": cond(x, y, z), "if x then y else z ; 1": seq(cond(x, y, z), one), "if x ; y then z else 1": cond(seq(x, y), z, one), "if x = y then y < z else z + 1": cond(op(x, "=", y), op(y, "<", z), op(z, "+", one)), "if x then if y then 1 else 2 else 3": cond(x, cond(y, one, two), three), "if x then 1 else if y then 2 else 3 ; z": seq(cond(x, one, cond(y, two, three)), z),
		"if if x then y else z then 1 else 2": cond(cond(x, y, z), one, two), "if x then fun y -> y ; z else 1": cond(x, fun("y", seq(y, z)), one), "if x then x <- 1 else y <- 2 ; 3": seq(cond(x, set("x", one), set("y", two)), three), "if x then 1 else fun y -> y ; z": cond(x, one, fun("y", seq(y, z))), "if let x = 1 in x ; y then 1 else 2": cond(let("x", one, seq(x, y)), one, two),
		"x <- 1": set("x", one), "x<-1": set("x", one), "x < (y)": op(x, "<", y), "x <- y <- 1 ; z": seq(set("x", set("y", one)), z), "x <- y = z": set("x", op(y, "=", z)), "x <- fun y -> y ; z": set("x", fun("y", seq(y, z))), "x <- if y then 1 else 2 ; z": seq(set("x", cond(y, one, two)), z), "f (x <- 1)": app(f, set("x", one)), "x ; x <- 1 + 2": seq(x, set("x", op(one, "+", two))),
	} {
		wantExpr(t, s, want)
		wantExpr(t, "object method m = "+s+" method x = ("+s+") end", object("", method("m", want), method("x", want)))
		wantExpr(t, "if "+s+" then ("+s+") else x", cond(want, want, x))
		wantExpr(t, "{< y = ("+s+") ; x = x >}", clone("y x", want, x))
	}
}

// P4.1: the place of the first token with which no phrase, and no expression, goes on.
func TestWrong(t *testing.T) {
	for _, s := range []string{
		"^", " (* *) ^", "^;", "^)", "^in", "^end", "^and", "^'a", "^->", "^= x", "^* x", "^- 1", "^as", "^then", "^else", "^rec", "^method m", "^>}", "^#m", "^..", "^:>", "^val", "^virtual",
		"x ;^", "x ; ^; y", "x ; ^)", "x ^: int", "x ; y ^, z", "x = ^", "x = y ^= z", "x < y ^< z", "x = y ^< z", "x ^:> int", "x + ^", "x + ^+ y", "x * ^", "x * ^- y", "x + ^fun y -> y", "x = ^let y = 1 in y", "x * ^if x then y else z", "x / y ^> z", "x ^>} z", "x + ^class", "x ; ^class",
		"f ^fun x -> x", "f ^let x = 1 in x", "f ^new c", "f x ^'a", "f ^if x then y else z", "x#^", "x#^1", "x#^let", "x#^#m", "x#m#^", "f x#^(m)", "x ^-> y", "x y ^.. z", "x ^then y", "x ^end", "x ^method m = y", "x ^rec",
		"new ^", "new ^1", "new ^(c)", "new c^#m", "new c x y ^: int", "new ^new c", "new c ^new c", "new ^end", "new c x ^fun x -> x", "new ^object end", "new c x ^'a",
		"let ^", "let ^1", "let ^(x) = 1", "let x ^", "let x ^1 = 2", "let x ^in x", "let x = ^", "let x = ^in x", "let x = 1 in ^", "let x = 1 in ^; x", "let x = 1 in y ^in z", "let ^let x = 1", "let x = 1 ^and y = 2", "let rec ^", "let rec ^rec", "let rec ^= 1", "let f x ^-> x", "let x ^: int = 1", "let ^true = 1", "let rec f x = 1 in ^", "let x = let y = 1^", "let x = 1 in let y = 1^", "let x = let y = 1 ^)",
		"fun ^", "fun ^-> x", "fun x ^", "fun x ^= x", "fun x ^1 -> x", "fun x -> ^", "fun ^(x) -> x", "fun x -> ^in", "fun x y -> ^-> z", "fun ^fun x -> x", "fun x ^fun y -> x", "fun x ^<- y",
		"if ^", "if x^", "if x ^else y", "if x then ^", "if x then y^", "if x then y ^; z else z", "if x then y else ^", "if x then y else ^; z", "if ^then x else y", "if x then ^else y", "if x then y else z ^else x", "if x then y ^then z else x", "if x ^in y",
		"x <- ^", "x <- ^; y", "x <- ^<- y", "1 ^<- 2", "f x ^<- 1", "x#m ^<- 1", "1 + x ^<- 2", "x = y ^<- 1", "(x) ^<- 1", "x * y ^<- 1", "true ^<- 1", "^<- x", "new x ^<- 1", "x <- y z ^<- 1",
		"(^", "(x^", "(x ; ^; x)", "(x ;^)", "(x, ^)", "(x, y^, z)", "(x, y ^: int)", "(^, x)", "(^: int)", "(^:> int)", "(x ^:> int)", "() ^)", "(x) ^)", "(x ^in y)", "(x ^end", "(let y = 1^)", "(^class c = object end)", "(x, y ^",
		"(x : ^)", "(x : ^x)", "(x : ^", "(x : int^", "(x : int^, x)", "(x : int ^x)", "(x : int :> ^)", "(x : int :> int ^:> int)", "(x : int :> int ^: int)", "(x : int :> ^bools)", "(x : int :> int^", "(x : int -> ^)", "(x : int * ^-> int)", "(x : (int ^:> int))", "(x : < m ^int >)", "(x : < m : int ; ^m : int >)", "(x : < m : int ; ^m : int > :> ;", "(x : int :> < n : int ; m : bool ; ^n : int >)", "(x : int as ^int)", "(x : int as ^:> int)", "(x : int as 'a ^-> int)", "(x : int as 'a ^* int)", "(x : int ^= int)", "(x : ^1)", "(x : 'a ^'a)", "(x : ^{< >})", "(x : < m : int ^as 'a >)", "(x : < .. ^; m : int >)",
		"{< ^", "{< ^1 >}", "{< x ^>}", "{< x ^: 1 >}", "{< x = ^>}", "{< x = 1^", "{< x = 1 ^, y = 2 >}", "{< x = 1 ; ^>}", "{< ^; >}", "{< x = 1 ; ^; y = 2 >}", "{< x = 1 ; y ^; z = 3 >}", "{< x = 1 ^>", "{< x = y = z ^= 1 >}", "{< x ^y = 1 >}", "{< x = fun y -> y ; z = ^fun x -> x >}", "{< x = let y = 1 in y ; z = 1 ^= 2 >}", "{< ^(x) = 1 >}", "{< x ^<- 1 >}", "{< ^val x = 1 >}", "{< x = 1 ^in >}",
		"object ^", "object (^", "object (^) end", "object (^1) end", "object (s ^: int) end", "object (s ^t) end", "object (s)^", "object (s) ^(t) end", "object ^x end", "object ^; end", "object ^= end", "object end ^end", "object ^object end", "object ^let x = 1 end", "object ^and end", "object ^)", "object ^inherits end", "object ^\"end\"",
		"object inherit ^", "object inherit ^1 end", "object inherit ^new c end", "object inherit ^end", "object inherit c ^new d end", "object inherit c as ^end", "object inherit c as ^1 end", "object inherit c as p ^x end", "object inherit c as p ^as q end", "object inherit c x ^= y end", "object inherit c x ^+ y end", "object inherit c x ^fun x -> x end", "object inherit c ^; end", "object inherit c x#^1 end", "object inherit c ^-> end", "object inherit ^as p end", "object inherit c^#m end", "object inherit c x ^<- y end",
		"object val ^", "object val ^1", "object val x ^1", "object val x ^y = 1 end", "object val x = ^end", "object val x = 1^", "object val x = 1 ; ^method m = 1 end", "object val x ^: int end", "object val x = 1 ^in x end", "object val ^val = 1 end", "object val x = 1 ^as y end", "object val x ^<- 1 end", "object val x = x ^: int end",
		"object method ^", "object method ^1", "object method m ^1 = 1 end", "object method m^", "object method m ^: int end", "object method m = ^end", "object method m x ^-> x end", "object method ^virtual m : int end", "object method m = 1 ^then end", "object method m = 1 ; ^end", "object method m = 1 end ^end", "object method m = let x = 1 ^end",
		"object virtual ^", "object virtual ^1", "object virtual m^", "object virtual m ^= 1 end", "object virtual m ^x : int end", "object virtual m : ^", "object virtual m : ^end", "object virtual m : int ^; end", "object virtual m : int ^x end", "object virtual m : ^virtual n : int end", "object virtual m : int as ^end", "object virtual m : ^x", "object virtual ^method m : int end", "object virtual m : < n : int ; ^n : bool > end", "object virtual m : int ^:> int end", "object virtual m : int^",
	} {
		s, at := marked(t, s)
		wantNoPhrase(t, s, at, api.ErrForm)
		wantNoExpr(t, s, at, api.ErrForm)
		ahead := "\n(* ; *) "
		wantNoPhrase(t, ahead+s, len(ahead)+at, api.ErrForm)
		if !strings.HasPrefix(s, "let") {
			ahead = "let f x = "
			wantNoPhrase(t, ahead+s, len(ahead)+at, api.ErrForm)
		}
	}
}

// P4.1: what is wrong of a phrase alone, and of an expression alone.
func TestWrongPhrases(t *testing.T) {
	for _, s := range []string{
		"class ^", "class ^1", "class ^object end", "class c^", "class c ^object end", "class c x ^1 = object end", "class c x ^(y) = object end", "class c ^: int", "class c = ^", "class c = ^x", "class c = ^(object end)", "class c = ^new c", "class c = ^fun x -> x", "class c = ^{< >}", "class c = object^",
		"class c = object end^#m", "class c = object end ^x", "class c = object end ^; x", "class c = object end ^and d = object end", "class c = object end ^class d = object end", "class c = object end ^in c", "class c = object end ^= x", "class c = object end ^+ x", "class c x ^in object end", "class ^rec c = object end", "class c = ^class",
		"class c = object (^1) end", "class c = object ^1 end", "class c = object val v = ^end", "class c x = object inherit ^1 end", "class c = object virtual m : ^x end", "class c = object method m = 1^",
		"let x = 1 ^end", "let x = 1 ^let y = 2", "let x = 1 ; ^; ", "let f x = x#m ;^;", "let x = 1 ^)", "let x = 1 ^: int", "let x = 1^, 2", "let rec f x = f ^class", "let x = (let y = 1^)", "let x = ^class c = object end", "let x = 1 in 2 ^in 3", "let x = let y = 1 in 2 in 3 ^in 4",
	} {
		s, at := marked(t, s)
		wantNoPhrase(t, s, at, api.ErrForm)
	}
	for _, s := range []string{
		"let x = 1^", "let f x y = x^", "let rec f x = x^", "let x = 1 ; 2^", "let x = 1 ; let y = 2^", "let x = let y = 1 in y^", "^class c = object end", "let x = 1 in ^class c = object end", "let x = (1)\n^",
	} {
		s, at := marked(t, s)
		wantNoExpr(t, s, at, api.ErrForm)
		wantNoPhrase(t, "("+s, at+1, api.ErrForm)
	}
}

// P4.1: a rec of what is no fun is told at its name, once that is read.
func TestRecOfNoFun(t *testing.T) {
	for _, s := range []string{
		"let rec ^f = 1", "let rec ^f = f", "let rec ^f = (f)", "let rec ^f = fun2 f", "let rec ^f = let x = 1 in fun y -> y", "let rec ^f = (fun x -> x : int -> int)", "let rec ^f = (fun x -> x) 1", "let rec ^f = 1 ; fun x -> x", "let rec ^f = (fun x -> x, 1)", "let rec ^f = if x then fun x -> x else fun x -> x", "let rec ^f = object end", "let rec ^f = x <- fun x -> x",
		"let rec ^f = 1 in f", "let rec ^f = 1 in", "let rec ^f = 1 )", "let rec ^f = 1 end", "let rec ^f = x = y = z", "let rec (* f *)\n ^f (**) = 1 in (* f *) f",
		"x ; let rec ^f = 1 in f", "x ; let rec ^f = 1", "let rec f x = let rec ^g = 1 in g in f", "let rec f = let rec ^g = 1 in g", "let rec f x = let rec ^g = f x", "let x = 1 in let rec ^f = x in", "object method m = let rec ^f = 1 in f end", "object method m = let rec ^f = 1 end", "let rec ^f = let rec g x = x in g in f", "let x = let rec ^f = x in f", "class c = object val v = let rec ^f = v end", "(let rec ^f = f)", "{< x = let rec ^f = 1 >}",
	} {
		s, at := marked(t, s)
		wantNoPhrase(t, s, at, api.ErrForm)
		if !strings.HasPrefix(s, "class") {
			wantNoExpr(t, s, at, api.ErrForm)
		}
	}
	// What is wrong in it is told ahead, and a type in it that is too deep.
	for _, s := range []string{"let rec f = 1 + ^", "let rec f = 1 ; ^)", "let rec f = (1^", "let rec f = let rec g x = 1^", "let rec f = (1 : ^x) in f", "let rec f = let x = 1 in^", "let rec f = (fun x -> x)^, 1", "let rec f = fun x -> ^", "let rec f x = x ^)"} {
		s, at := marked(t, s)
		wantNoPhrase(t, s, at, api.ErrForm)
		wantNoExpr(t, s, at, api.ErrForm)
	}
	wantNoPhrase(t, "let rec f = (1 : "+arrows(api.MaxDeep+1)+")", 0, api.ErrDeep)
	// How deep it is, is asked at the end alone.
	for _, e := range []string{sums(api.MaxDeep + 1), sums(5000)} {
		wantNoPhrase(t, "let rec f = "+e, 8, api.ErrForm)
		wantNoExpr(t, "let rec f = "+e+" in f", 8, api.ErrForm)
		wantNoExpr(t, e+" ; let rec f = 1 in f", len(e)+11, api.ErrForm)
	}
}

// arrows is a type of a depth; sums is such an expression.
func arrows(deep int) string { return strings.Repeat("int -> ", deep-1) + "int" }
func sums(deep int) string   { return "1" + strings.Repeat(" + x", deep-1) }

// P4.1: layer 1's errors and places come ahead of all others.
func TestNoTokens(t *testing.T) {
	for _, s := range []string{"^?", "let let ^?", "x ^! y", "x#^M", "(x : ^')", "(x : ^'A)", "x ; ; ^\"a", "^(* x", "x ^9223372036854775808", "let ^" + longest + "w = 1", "(x : ^'" + longest + "w)", "let rec f = 1 in ^&", "(x : " + arrows(api.MaxDeep+1) + ") ^@", sums(api.MaxDeep+1) + " ^[", "^\xff"} {
		s, at := marked(t, s)
		wantNoPhrase(t, s, at, api.ErrLex)
		wantNoExpr(t, s, at, api.ErrLex)
	}
	blanks := strings.Repeat(" ", api.MaxText)
	wantNoPhrase(t, blanks, api.MaxText, api.ErrForm)
	wantNoExpr(t, blanks, api.MaxText, api.ErrForm)
	wantExpr1(t, "x"+blanks[1:], x)
	for _, s := range []string{"x" + blanks, "; ?" + blanks, blanks + "?"} {
		wantNoPhrase(t, s, 0, api.ErrLong)
		wantNoExpr(t, s, 0, api.ErrLong)
	}
}

// wantExpr1 is wantExpr of the text alone, without brackets.
func wantExpr1(t *testing.T, s string, want api.Expr) {
	t.Helper()
	if e, at, no := parse.Expr(s); no != api.OK || at != 0 || !tree.Same(e, want) {
		t.Errorf("Expr(%.300q) = %.90v, %d, %d, want %.90v", s, e, at, no, want)
	}
	wantPhrase(t, s, phrase(want))
}

// nests are texts that are one deeper each time that ahead and behind stand around x; and how much deeper one of them is to begin with.
var nests = []struct{ ahead, behind string }{
	{"fun x -> ", ""}, {"let x = 1 in ", ""}, {"let x = (", ") in 1"}, {"let x = ", " in 1"}, {"if x then y else ", ""}, {"if x then ", " else y"}, {"if ", " then x else y"}, {"x <- ", ""}, {"x ; ", ""}, {"(", ") ; x"}, {"x + (", ")"}, {"x = (", ")"}, {"(", ") * x"},
	{"f (", ")"}, {"(", ") x"}, {"(", ")#m"}, {"new c (", ")"}, {"(", ", x)"}, {"(x, ", ")"}, {"(", " : int)"}, {"(", " : int :> int)"}, {"{< x = ", " >}"}, {"{< x = 1 ; y = (", ") >}"},
}

// P4.1: what is deeper than MaxDeep; but brackets are no depth.
func TestDeep(t *testing.T) {
	for _, n := range nests {
		for deep := 1; deep <= api.MaxDeep+2; deep++ {
			s := strings.Repeat(n.ahead, deep-1) + "x" + strings.Repeat(n.behind, deep-1)
			e, at, no := parse.Expr(s)
			if deep > api.MaxDeep {
				wantNoExpr(t, s, 0, api.ErrDeep)
				wantNoPhrase(t, s, 0, api.ErrDeep)
			} else if no != api.OK || at != 0 || tree.Deep(e) != deep {
				t.Fatalf("Expr(%.300q) is %d deep, %d, %d, want %d", s, tree.Deep(e), at, no, deep)
			}
		}
	}
	for _, n := range [][2]string{{"object method m = ", " end"}, {"object val x = ", " end"}, {"object inherit c (", ") end"}, {"object virtual m : int method m = 1 val x = (", ") end"}} {
		s := strings.Repeat(n[0], 99) + "fun x -> x" + strings.Repeat(n[1], 99)
		wantNoExpr(t, "fun x -> "+s, 0, api.ErrDeep)
		wantNoPhrase(t, "let f x = "+s, 0, api.ErrDeep)
		wantNoPhrase(t, "class c = object val x = 1 ; "+s+" end", 0, api.ErrDeep)
		e, _, no := parse.Expr(s)
		p, _, no2 := parse.Parse("class c x y z = " + s)
		if no != api.OK || tree.Deep(e) != api.MaxDeep || no2 != api.OK || p.Kind != api.PClass || !tree.Same(p.E, e) {
			t.Errorf("%.100q: %d deep, %d, %d", s, tree.Deep(e), no, no2)
		}
	}
	names := strings.Repeat(" x", api.MaxDeep-1)
	for _, s := range []string{"let f" + names + " = x", "let rec f" + names + " = x", "fun" + names + " -> x", "let f" + names[2:] + " = x in f", "object method m" + names[4:] + " = x end"} {
		if _, at, no := parse.Parse(s); at != 0 || no != api.OK {
			t.Errorf("%.20q: %d, %d", s, at, no)
		}
		for _, name := range []string{"let f", "let rec f", "fun", "method m"} {
			wantNoPhraseIf(t, s, strings.Replace(s, name+" x", name+" x x", 1))
		}
	}
	for deep := 3; deep <= api.MaxDeep+2; deep++ {
		s := strings.Repeat("let rec f x = 1 in ", deep-2) + "x"
		if e, at, no := parse.Expr(s); at != 0 || (no == api.OK) != (deep <= api.MaxDeep) || no == api.OK && tree.Deep(e) != deep {
			t.Errorf("%d lets: %d deep, %d, %d", deep-2, tree.Deep(e), at, no)
		}
	}
	wantExpr1(t, strings.Repeat("(", 32000)+"x"+strings.Repeat(")", 32000), x)
}

func wantNoPhraseIf(t *testing.T, old, s string) {
	t.Helper()
	if s != old {
		wantNoPhrase(t, s, 0, api.ErrDeep)
	}
}

// P4.1: a type that is too deep is told ahead of what is wrong behind it, and behind what is wrong ahead of it.
func TestDeepTypes(t *testing.T) {
	most, more := arrows(api.MaxDeep), arrows(api.MaxDeep+1)
	as := "int " + strings.Repeat("as 'a ", api.MaxDeep)
	for _, s := range []string{"(x : %)", "(x : int :> %)", "(x : % :> int)", "object virtual m : % end", "fun x -> (x : %)", "object method m = (x : %) virtual n : int end", "x ; (y : (%))"} {
		for _, deep := range []string{more, as} {
			s := strings.ReplaceAll(s, "%", deep)
			wantNoExpr(t, s, 0, api.ErrDeep)
			wantNoPhrase(t, s, 0, api.ErrDeep)
			wantNoPhrase(t, "let x = "+s, 0, api.ErrDeep)
			wantNoPhrase(t, "class c = object val x = "+s+" end", 0, api.ErrDeep)
		}
		s = strings.ReplaceAll(s, "%", most)
		if _, at, no := parse.Expr(s); at != 0 || no != api.OK {
			t.Errorf("%.100q: %d, %d", s, at, no)
		}
	}
	for _, s := range []string{"(x : %", "(x : % ;", "(x : % :> )", "(x : % :> 1", "(x : int :> % :> int)", "object virtual m : % ; end", "object virtual m : % virtual n : < m : int ; m : int >", "(x : %) ; ;", "let rec f = (x : %) in f", "let rec f = (x : %", "let x = (y : %) in let rec f = 1", "class c = object virtual m : % end x"} {
		wantNoPhrase(t, strings.ReplaceAll(s, "%", more), 0, api.ErrDeep)
	}
	for _, s := range []string{"(x : % -> ^)", "(x : % as ^)", "(x ^:> %)", "x ; ^; (x : %)", "let rec ^f = 1 in (x : %)", "(x : int ^; (x : %))", "(x : (% ^:> int))", "(x : < m : int ; ^m : % >)", "(x : ^x :> %)", "class ^(x : %)", "(x : (%) as 'a ^-> int)"} {
		s, at := marked(t, strings.ReplaceAll(s, "%", more))
		wantNoPhrase(t, s, at, api.ErrForm)
	}
}

// P4.2: layer 2's error of the expression, ahead of all others.
func TestCheckExpr(t *testing.T) {
	deep, bad := x, v("let")
	for range api.MaxDeep {
		deep = fun("x", deep)
	}
	for i, c := range []struct {
		e    api.Expr
		want api.Errno
	}{{x, api.OK}, {deep.Args[0], api.OK}, {deep, api.ErrDeep}, {bad, api.ErrArg}, {api.Expr{}, api.ErrArg}, {app(deep, bad), api.ErrArg}, {annot(x, con("->", integer)), api.ErrArg}, {with(api.Rec, "f", one, x), api.ErrArg}} {
		if got := parse.Check(phrase(c.e)); got != c.want {
			t.Errorf("%d: %d, want %d", i, got, c.want)
		}
		if got := parse.Check(api.Phrase{Kind: api.PLet, Name: "f", E: c.e}); got != c.want {
			t.Errorf("let %d: %d, want %d", i, got, c.want)
		}
	}
	// Whatever else is wrong.
	for _, p := range []api.Phrase{{Kind: api.PExpr, Name: "x"}, {Kind: api.PLet}, {Kind: api.PRec, Name: "let"}, {Kind: api.PClass, Name: "c"}, {Kind: 7}, {Kind: api.PRec, Name: "f", Names: []string{"x"}}} {
		p.E = app(deep, deep)
		if got := parse.Check(p); got != api.ErrDeep {
			t.Errorf("%.50v: %d", p, got)
		}
		p.E = x
		if got := parse.Check(p); got != api.ErrArg {
			t.Errorf("%.50v: %d", p, got)
		}
	}
}

// P4.2: names, and what E is, by Kind.
func TestCheckPhrase(t *testing.T) {
	exprs := []api.Expr{x, fun("x", x), object("s"), annot(fun("x", x), integer)}
	names := []struct {
		s  string
		ok bool
	}{{"x", true}, {"_", true}, {"int", true}, {longest, true}, {"", false}, {"let", false}, {"X", false}, {"x ", false}, {"'x", false}, {longest + "w", false}, {"x#m", false}}
	lists := []struct {
		l  []string
		ok bool
	}{{[]string{"x"}, true}, {[]string{"x", "x", longest}, true}, {[]string{""}, false}, {[]string{"x", "object"}, false}, {[]string{"Y", "x"}, false}, {[]string{longest + "w"}, false}}
	for kind := -1; kind < 7; kind++ {
		for i, e := range exprs {
			isKind := kind == api.PExpr || kind == api.PLet || kind == api.PRec && i == 1 || kind == api.PClass && i == 2
			for _, n := range names {
				ok := isKind && (n.ok && kind != api.PExpr || n.s == "" && kind == api.PExpr)
				wantChecked(t, api.Phrase{Kind: kind, Name: n.s, E: e}, ok)
				wantChecked(t, api.Phrase{Kind: kind, Name: n.s, Names: []string{}, E: e}, ok)
				for _, l := range lists {
					wantChecked(t, api.Phrase{Kind: kind, Name: n.s, Names: l.l, E: e}, ok && l.ok && kind == api.PClass)
				}
			}
		}
	}
	wantChecked(t, api.Phrase{}, false)
	wantChecked(t, api.Phrase{Kind: math.MinInt, E: x}, false)
	wantChecked(t, api.Phrase{Kind: math.MaxInt, Name: "x", E: x}, false)
}

func wantChecked(t *testing.T, p api.Phrase, ok bool) {
	t.Helper()
	want := api.ErrArg
	if ok {
		want = api.OK
	}
	if got := parse.Check(p); got != want {
		t.Errorf("Check(%.300v) = %d, want %d", p, got, want)
	}
}
