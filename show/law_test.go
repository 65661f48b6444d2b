package show_test

import (
	"math/rand"
	"reflect"
	"slices"
	"strings"
	"testing"

	"trefoil/api"
	"trefoil/lex"
	"trefoil/parse"
	"trefoil/show"
	"trefoil/tree"
)

func samePhrase(a, b api.Phrase) bool {
	return a.Kind == b.Kind && a.Name == b.Name && slices.Equal(a.Names, b.Names) && tree.Same(a.E, b.E)
}

// readsAsItWas holds what is shown of a phrase to P5.2, and answers its text.
func readsAsItWas(t *testing.T, p api.Phrase) string {
	t.Helper()
	s, no := show.Phrase(p)
	if again, _ := show.Phrase(p); no != api.OK || again != s {
		t.Fatalf("Phrase(%s) = %q, %d, and then %q", brief(p), s, no, again)
	}
	if len(s) > api.MaxText {
		return s
	}
	q, at, no := parse.Parse(s)
	if no != api.OK || !samePhrase(p, q) {
		t.Fatalf("Parse(%q) = %s, %d, %d, want %s", s, brief(q), at, no, brief(p))
	}
	if again, no := show.Phrase(q); no != api.OK || again != s {
		t.Fatalf("%q is shown as %q, %d", s, again, no)
	}
	return s
}

// exprReadsAsItWas holds what is shown of an expression to P5.2, in each phrase that it may be in.
func exprReadsAsItWas(t *testing.T, e api.Expr) {
	t.Helper()
	s, no := show.Expr(e)
	if got, at, no2 := parse.Expr(s); len(s) <= api.MaxText && (no != api.OK || no2 != api.OK || !tree.Same(got, e)) {
		t.Fatalf("Expr(%s) = %q, %d; Expr of it = %s, %d, %d", brief(e), s, no, brief(got), at, no2)
	}
	readsAsItWas(t, phrase(e))
	readsAsItWas(t, api.Phrase{Kind: api.PLet, Name: "a", E: e})
	if e.Kind == api.Fun {
		readsAsItWas(t, api.Phrase{Kind: api.PRec, Name: "a", E: e})
	}
	if e.Kind == api.Object {
		readsAsItWas(t, api.Phrase{Kind: api.PClass, Name: "a", Names: []string{"b", "a", "b"}, E: e})
	}
}

// P5.2: each kind, at each place of each kind, at each place of each kind.
func TestReadAsItWas(t *testing.T) {
	for _, a := range atoms {
		exprReadsAsItWas(t, a.e)
	}
	for _, h := range holes {
		for _, a := range atoms {
			exprReadsAsItWas(t, h.fill(a.e))
		}
		for _, i := range holes {
			for _, j := range holes {
				exprReadsAsItWas(t, h.fill(i.fill(j.fill(x))))
			}
			exprReadsAsItWas(t, h.fill(i.fill(neu("c"))))
		}
	}
}

// A maker makes what may be, at random.
type maker struct{ *rand.Rand }

func (r maker) of(list ...string) string { return list[r.Intn(len(list))] }
func (r maker) name() string             { return r.of("x", "y", "_", "int", "aB1", "x2x") }

func (r maker) many(n, deep int) []api.Expr {
	var l []api.Expr
	for range n {
		l = append(l, r.expr(deep))
	}
	return l
}

func (r maker) typ(deep int) api.Type {
	if deep <= 0 {
		return []api.Type{tvar(r.of("a", "let")), con(r.of("int", "bool", "string", "unit")), {Kind: api.TObj, Open: r.Intn(2) == 0}}[r.Intn(3)]
	}
	return []api.Type{con(r.of("->", "*"), r.typ(deep-1), r.typ(deep-2)), tas("b", r.typ(deep-1)), {Kind: api.TObj, Open: r.Intn(2) == 0, Labels: []string{"m", "n"}, Args: []api.Type{r.typ(deep - 1), r.typ(0)}}}[r.Intn(3)]
}

func (r maker) expr(deep int) api.Expr {
	if deep <= 0 {
		return []api.Expr{v(r.name()), num(r.Int63()), truth(r.Int63n(2)), text(r.of("", "a\n\"\\", "(* x", "x")), unit(), neu(r.name()), object(""), clone("")}[r.Intn(8)]
	}
	sub := func(n int) []api.Expr { return r.many(n, deep-1-r.Intn(2)) }
	switch kind := api.Fun + r.Intn(api.Coerce-api.Fun+1); kind {
	case api.Fun, api.Send, api.Set:
		return with(kind, r.name(), sub(1)...)
	case api.App, api.Pair, api.Seq:
		return with(kind, "", sub(2)...)
	case api.Let:
		return with(kind, r.name(), sub(2)...)
	case api.Rec:
		return rec(r.name(), fun(r.name(), r.expr(deep-2)), r.expr(deep-1))
	case api.If:
		return with(kind, "", sub(3)...)
	case api.Op:
		return with(kind, r.of("+", "-", "*", "/", "=", "<"), sub(2)...)
	case api.New:
		return with(kind, r.name(), sub(r.Intn(4))...)
	case api.Clone:
		l := sub(r.Intn(4))
		return clone(strings.Repeat(r.name()+" ", len(l)), l...)
	case api.Annot:
		return annot(r.expr(deep-1), r.typ(r.Intn(3)))
	case api.Coerce:
		return coerce(r.expr(deep-1), r.typ(r.Intn(3)), r.typ(r.Intn(3)))
	}
	return r.object(deep)
}

func (r maker) object(deep int) api.Expr {
	o := object(r.of("", "s"))
	for range r.Intn(4) {
		o.Members = append(o.Members, []api.Member{inherit(r.name(), r.of("", "p"), r.many(r.Intn(4), deep-2)...), val(r.name(), r.expr(deep-2)), method(r.name(), r.expr(deep-2)), virtual(r.name(), r.typ(r.Intn(3)))}[r.Intn(4)])
	}
	return o
}

func (r maker) phrase(deep int) api.Phrase {
	p := api.Phrase{Kind: 1 + r.Intn(4), Name: r.name()}
	switch p.Kind {
	case api.PExpr:
		p.Name, p.E = "", r.expr(deep)
	case api.PLet:
		p.E = r.expr(deep)
	case api.PRec:
		p.E = fun(r.name(), r.expr(deep-1))
	case api.PClass:
		p.E = r.object(deep)
		p.Names = []string{"x", "y", "x"}[:r.Intn(4)]
	}
	return p
}

// P5.2: whatever stands in whatever.
func TestReadAsItWasAtRandom(t *testing.T) {
	r := maker{rand.New(rand.NewSource(1))}
	for range 15000 {
		readsAsItWas(t, r.phrase(r.Intn(7)))
	}
	for range 300 {
		e := r.expr(2)
		for tree.Deep(e) < api.MaxDeep-5 {
			e = holes[r.Intn(len(holes))].fill(e)
		}
		exprReadsAsItWas(t, e)
	}
}

// respelt is a text with the same tokens but for what says nothing: blanks, notes, brackets around what is an atom anyhow, a fun's names ahead of a fun.
func (r maker) respelt(t *testing.T, s string) string {
	l, _, no := lex.Lex(s)
	if no != api.OK {
		t.Fatal(s, no)
	}
	var b strings.Builder
	for i := 0; i < len(l)-1; i++ {
		if l[i].S == "->" && l[i+1].Kind == api.Key && l[i+1].S == "fun" && r.Intn(2) == 0 {
			i++
			continue
		}
		put, _ := lex.Put(l[i])
		if (l[i].Kind == api.Int || l[i].Kind == api.Str) && r.Intn(4) == 0 {
			put = "((" + put + " ) (**) )"
		}
		b.WriteString(put + r.of(" ", " ", "\n", "\t\r ", " (* let x = ( \" ? (* *) ", "(**)"))
	}
	return b.String()
}

// parsedShown holds a text that is a phrase to P5.2.
func parsedShown(t *testing.T, s string) {
	t.Helper()
	p, at, no := parse.Parse(s)
	if no != api.OK {
		t.Fatalf("Parse(%q): %d, %d", s, at, no)
	}
	readsAsItWas(t, p)
}

// P5.2: what is parsed, shown, parsed is the same, however it was written.
func TestParsedShown(t *testing.T) {
	r := maker{rand.New(rand.NewSource(2))}
	for range 10000 {
		p := r.phrase(r.Intn(6))
		s, _ := show.Phrase(p)
		if again := r.respelt(t, s); len(again) <= api.MaxText {
			parsedShown(t, again)
			if q, _, _ := parse.Parse(again); !samePhrase(p, q) {
				t.Fatalf("%q is another phrase than %q", again, s)
			}
		}
	}
}

// P5.2: what is written in another way than it is shown.
func TestShownOf(t *testing.T) {
	for s, want := range map[string]string{
		"let f x y=x#m":                       "let f = fun x -> fun y -> x#m",
		"let rec f x y = f y x":               "let rec f = fun x -> fun y -> f y x",
		"let f x = x in f":                    "let f = fun x -> x in f",
		"let rec f x = x in f f":              "let rec f = fun x -> x in f f",
		"let rec f=((fun x->((x))))":          "let rec f = fun x -> x",
		"((fun x -> x))":                      "fun x -> x",
		"(fun x y -> x) 1":                    "(fun x -> fun y -> x) 1",
		"x<-y<-1":                             "x <- (y <- 1)",
		"if(a)then(b)else if c then d else e": "if a then b else (if c then d else e)",
		"if a then b else fun x -> x ; y":     "if a then b else (fun x -> x ; y)",
		"a;b;(c;d);e":                         "a ; b ; (c ; d) ; e",
		"fun x -> a ; b":                      "fun x -> a ; b",
		"(fun x -> a) ; b":                    "(fun x -> a) ; b",
		"1-(2-3)-4":                           "1 - (2 - 3) - 4",
		"(1*2)+(3/4)":                         "1 * 2 + 3 / 4",
		"(new c)x":                            "(new c) x",
		"(new c x)y":                          "(new c x) y",
		"new c(x)(new d)(f y)y#m":             "new c x (new d) (f y) y#m",
		"(new c)#m":                           "(new c)#m",
		"f(x)#m":                              "f x#m",
		"(f x)#m":                             "(f x)#m",
		"(a,(b,c))":                           "(a, (b, c))",
		"(x:int*int->'a as 'a)":               "(x : int * int -> 'a as 'a)",
		"(x:<n:int;m:bool;..>:><>)":           "(x : < m : bool ; n : int ; .. > :> < >)",
		"{<x=1;y=fun z->z>}":                  "{< x = 1 ; y = (fun z -> z) >}",
		"{<>}":                                "{< >}",
		"object(s)method m x y=s inherit c 1(f x)as p virtual k:int as 'a val v=1;2 end": "object (s) method m = fun x -> fun y -> s inherit c 1 (f x) as p virtual k : int as 'a val v = 1 ; 2 end",
		"class c x y=object end": "class c x y = object end",
		"\"a\nb\\n\"(**)":        `"a\nb\n"`,
		"007":                    "7",
	} {
		parsedShown(t, s)
		p, _, _ := parse.Parse(s)
		wantPhrase(t, p, want)
	}
}

// anyExpr is an expression that may be, or may not: a field, a part or a member of it is another one's.
func (r maker) anyExpr() api.Expr {
	e := r.expr(3)
	x := &e
	for len(x.Args) > 0 && r.Intn(3) > 0 {
		x = &x.Args[r.Intn(len(x.Args))]
	}
	other := r.expr(2)
	switch r.Intn(10) {
	case 0:
		x.Kind = r.Intn(24) - 1
	case 1:
		x.S = r.of("", "x", "let", "+", "A", "é", "x y")
	case 2:
		x.N = r.Int63n(4) - 1
	case 3:
		x.Args = other.Args
	case 4:
		x.Names = []string{r.of("x", "", "in"), "y"}[:r.Intn(3)]
	case 5:
		x.Types = []api.Type{r.typ(2), {Kind: r.Intn(6), S: r.of("int", "->", "x"), Args: []api.Type{integer, boolean}[:r.Intn(3)]}}[:r.Intn(3)]
	case 6:
		x.Members = other.Members
	case 7:
		x.Members = append(x.Members, api.Member{Kind: r.Intn(6), Name: r.of("x", "", "as"), As: r.of("", "x", "as"), Args: other.Args})
	case 8:
		x.Kind = other.Kind
	}
	return e
}

// P1, P5.1: of anything at all it is told whether it may be, by layers 2 and 4; and beside an error there is no text.
func TestAnything(t *testing.T) {
	r := maker{rand.New(rand.NewSource(3))}
	faults := 0
	for range 30000 {
		e := r.anyExpr()
		s, no := show.Expr(e)
		if no != tree.Check(e) || (no == api.OK) != (s != "") {
			t.Fatalf("Expr(%s) = %q, %d", brief(e), s, no)
		}
		p := api.Phrase{Kind: r.Intn(6), Name: r.of("", "x", "let", "y"), Names: []string{r.of("x", "end"), "y"}[:r.Intn(3)], E: e}
		s, no = show.Phrase(p)
		if no != parse.Check(p) || (no == api.OK) != (s != "") {
			t.Fatalf("Phrase(%s) = %q, %d", brief(p), s, no)
		}
		if no != api.OK {
			faults++
			continue
		}
		readsAsItWas(t, p)
	}
	if faults < 1000 || faults > 29900 {
		t.Errorf("%d are faults", faults)
	}
}

// roomy is a copy of a list with spare room, in which bad stands.
func roomy[T any](l []T, bad T) []T {
	l = append(slices.Clone(l), bad, bad)
	return l[:len(l)-2]
}

func roomyTypes(l []api.Type) []api.Type {
	l = roomy(l, api.Type{Kind: 99})
	for i := range l {
		l[i].Args, l[i].Labels = roomyTypes(l[i].Args), roomy(l[i].Labels, "spare")
	}
	return l
}

func roomyExprs(l []api.Expr) []api.Expr {
	l = roomy(l, api.Expr{Kind: 99})
	for i := range l {
		e := &l[i]
		e.Args, e.Names, e.Types = roomyExprs(e.Args), roomy(e.Names, "spare"), roomyTypes(e.Types)
		e.Members = roomy(e.Members, api.Member{Kind: 99})
		for j := range e.Members {
			m := &e.Members[j]
			m.Args, m.Types = roomyExprs(m.Args), roomyTypes(m.Types)
		}
	}
	return l
}

// spare is all that stands in a list's room, its spare room included.
func spare[T any](l []T) []T { return l[:cap(l)] }

// whole is a phrase's expression with all spare room as if it were of its lists.
func whole(l []api.Expr) []api.Expr {
	l = slices.Clone(spare(l))
	for i := range l {
		e := &l[i]
		e.Args, e.Names, e.Types = whole(e.Args), slices.Clone(spare(e.Names)), wholeTypes(e.Types)
		e.Members = slices.Clone(spare(e.Members))
		for j := range e.Members {
			m := &e.Members[j]
			m.Args, m.Types = whole(m.Args), wholeTypes(m.Types)
		}
	}
	return l
}

func wholeTypes(l []api.Type) []api.Type {
	l = slices.Clone(spare(l))
	for i := range l {
		l[i].Args, l[i].Labels = wholeTypes(l[i].Args), slices.Clone(spare(l[i].Labels))
	}
	return l
}

// Rule 4: what is handed in stays as it was, its spare room too.
func TestHandedIn(t *testing.T) {
	r := maker{rand.New(rand.NewSource(4))}
	for range 1000 {
		p := r.phrase(5)
		want, _ := show.Phrase(p)
		l := roomyExprs([]api.Expr{p.E})
		p.E, p.Names = l[0], roomy(p.Names, "spare")
		names, before := slices.Clone(spare(p.Names)), whole(l)
		if s, no := show.Phrase(p); s != want || no != api.OK {
			t.Fatalf("Phrase = %q, %d, want %q", s, no, want)
		}
		show.Expr(p.E)
		if !reflect.DeepEqual(whole(l), before) || !slices.Equal(spare(p.Names), names) {
			t.Fatalf("%q: changed", want)
		}
	}
}
