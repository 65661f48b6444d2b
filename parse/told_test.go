package parse_test

import (
	"math/rand"
	"runtime/debug"
	"slices"
	"strconv"
	"strings"
	"testing"

	"trefoil/api"
	"trefoil/lex"
	"trefoil/parse"
	"trefoil/tree"
	"trefoil/typ"
)

// A teller makes expressions that may be, and tells them, with blanks, notes and brackets at random.
type teller struct{ *rand.Rand }

func (r teller) of(list ...string) string { return list[r.Intn(len(list))] }
func (r teller) name() string             { return r.of("x", "y", "_", "int", "aB1", longest) }

func (r teller) many(n, deep int) []api.Expr {
	var l []api.Expr
	for range n {
		l = append(l, r.expr(deep))
	}
	return l
}

func (r teller) typ(deep int) api.Type {
	if deep <= 0 {
		return []api.Type{tvar(r.of("a", "let")), con(r.of("int", "bool", "string", "unit")), {Kind: api.TObj, Open: r.Intn(2) == 0}}[r.Intn(3)]
	}
	return []api.Type{con(r.of("->", "*"), r.typ(deep-1), r.typ(deep-2)), tas("b", r.typ(deep-1)), {Kind: api.TObj, Open: r.Intn(2) == 0, Labels: []string{"m", "n"}, Args: []api.Type{r.typ(deep - 1), r.typ(0)}}}[r.Intn(3)]
}

func (r teller) expr(deep int) api.Expr {
	if deep <= 0 {
		return []api.Expr{v(r.name()), num(r.Int63()), truth(r.Int63n(2)), text(r.of("", "a\n\"\\", "(* x")), unit(), with(api.New, r.name()), object(""), clone("")}[r.Intn(8)]
	}
	sub := func(n int) []api.Expr { return r.many(n, deep-1-r.Intn(2)) }
	switch kind := api.Fun + r.Intn(api.Coerce-api.Fun+1); kind {
	case api.Fun, api.Send, api.Set:
		return with(kind, r.name(), sub(1)...)
	case api.App, api.Pair, api.Seq:
		return with(kind, "", sub(2)...)
	case api.Let:
		return with(kind, r.name(), sub(2)...)
	case api.Rec:
		return rec(r.name(), fun(r.name(), r.expr(deep-2)), r.expr(deep-1))
	case api.If:
		return with(kind, "", sub(3)...)
	case api.Op:
		return with(kind, r.of("+", "-", "*", "/", "=", "<"), sub(2)...)
	case api.New:
		return with(kind, r.name(), sub(r.Intn(4))...)
	case api.Clone:
		l := sub(r.Intn(4))
		return clone(strings.Repeat(r.name()+" ", len(l)), l...)
	case api.Annot:
		return annot(r.expr(deep-1), r.typ(r.Intn(3)))
	case api.Coerce:
		return coerce(r.expr(deep-1), r.typ(r.Intn(3)), r.typ(r.Intn(3)))
	}
	return r.object(deep)
}

func (r teller) object(deep int) api.Expr {
	o := object(r.of("", "s"))
	for range r.Intn(4) {
		o.Members = append(o.Members, []api.Member{inherit(r.name(), r.of("", "p"), r.many(r.Intn(4), deep-2)...), val(r.name(), r.expr(deep-2)), method(r.name(), r.expr(deep-2)), virtual(r.name(), r.typ(r.Intn(3)))}[r.Intn(4)])
	}
	return o
}

// blank is what may stand between two tokens.
func (r teller) blank() string {
	return r.of(" ", " ", " ", "\n", "\t\r ", " (* let x = ( \" ? (* *) ", "(**)")
}

// words are texts with a blank between.
func (r teller) words(l ...string) string {
	var b strings.Builder
	for _, s := range l {
		if s != "" {
			b.WriteString(r.blank() + s)
		}
	}
	return b.String() + r.blank()
}

// The levels of an expression: 0 with ; behind it, 1 one, 2 one that doesn't end in another expression, 3 a sum, 4 a product, 5 an application, 6 a send.
var levelOf = map[int]int{api.Let: 1, api.Rec: 1, api.Fun: 1, api.If: 1, api.Set: 1, api.App: 5, api.New: 5, api.Seq: 0}

func own(e api.Expr) int {
	if l, ok := levelOf[e.Kind]; ok {
		return l
	}
	if e.Kind == api.Op {
		return map[string]int{"=": 2, "<": 2, "+": 3, "-": 3, "*": 4, "/": 4}[e.S]
	}
	return 6
}

// told is an expression where one of a level at least is read.
func (r teller) told(e api.Expr, level int) string {
	s := r.bare(e)
	brackets := r.Intn(10) / 9
	if own(e) < level {
		brackets++
	}
	for range brackets {
		s = r.words("(", s, ")")
	}
	return s
}

// behind is names, and a sign, and an expression of which some functions may be told as names.
func (r teller) behind(sign string, e api.Expr) string {
	var l []string
	for e.Kind == api.Fun && r.Intn(3) > 0 {
		l = append(l, e.S)
		e = e.Args[0]
	}
	return r.words(append(l, sign, r.told(e, 0))...)
}

func (r teller) all(l []api.Expr) string {
	var told []string
	for _, e := range l {
		told = append(told, r.told(e, 6))
	}
	return r.words(told...)
}

func (r teller) typed(t api.Type) string {
	s, no := typ.Put(t)
	if no != api.OK {
		panic(no)
	}
	return s
}

func (r teller) bare(e api.Expr) string {
	part := func(i, level int) string { return r.told(e.Args[i], level) }
	switch e.Kind {
	case api.Num:
		return strconv.FormatInt(e.N, 10)
	case api.Bool:
		return []string{"false", "true"}[e.N]
	case api.Text:
		s, _ := lex.Put(api.Token{Kind: api.Str, S: e.S})
		return s
	case api.Unit:
		return r.words("(", ")")
	case api.Fun:
		return r.words("fun", e.S, r.behind("->", e.Args[0]))
	case api.App:
		if e.Args[0].Kind == api.New {
			return r.words(part(0, 6), part(1, 6))
		}
		return r.words(part(0, 5), part(1, 6))
	case api.Let:
		return r.words("let", e.S, r.behind("=", e.Args[0]), "in", part(1, 0))
	case api.Rec:
		return r.words("let", "rec", e.S, r.behind("=", e.Args[0]), "in", part(1, 0))
	case api.Pair:
		return r.words("(", part(0, 0), ",", part(1, 0), ")")
	case api.If:
		return r.words("if", part(0, 0), "then", part(1, 1), "else", part(2, 2))
	case api.Op:
		return r.operation(e)
	case api.Seq:
		return r.words(part(0, 2), ";", part(1, 0))
	case api.Object:
		return r.members(e)
	case api.Send:
		return r.words(part(0, 6), "#", e.S)
	case api.Set:
		return r.words(e.S, "<-", part(0, 2))
	case api.New:
		return r.words("new", e.S, r.all(e.Args))
	case api.Clone:
		return r.cloned(e)
	case api.Annot:
		return r.words("(", part(0, 0), ":", r.typed(e.Types[0]), ")")
	case api.Coerce:
		return r.words("(", part(0, 0), ":", r.typed(e.Types[0]), ":>", r.typed(e.Types[1]), ")")
	}
	return e.S
}

func (r teller) operation(e api.Expr) string {
	left := own(e)
	right := left + 1
	if left == 2 {
		left = 3
	}
	return r.words(r.told(e.Args[0], left), e.S, r.told(e.Args[1], right))
}

func (r teller) cloned(e api.Expr) string {
	var l []string
	for i, a := range e.Args {
		l = append(l, r.words(e.Names[i], "=", r.told(a, 2)))
	}
	return r.words("{<", strings.Join(l, ";"), ">}")
}

func (r teller) members(e api.Expr) string {
	l := []string{"object"}
	if e.S != "" {
		l = append(l, "(", e.S, ")")
	}
	for _, m := range e.Members {
		switch m.Kind {
		case api.Inherit:
			l = append(l, "inherit", m.Name, r.all(m.Args))
			if m.As != "" {
				l = append(l, "as", m.As)
			}
		case api.Val:
			l = append(l, "val", m.Name, "=", r.told(m.Args[0], 0))
		case api.Method:
			l = append(l, "method", m.Name, r.behind("=", m.Args[0]))
		case api.Virtual:
			l = append(l, "virtual", m.Name, ":", r.typed(m.Types[0]))
		}
	}
	return r.words(append(l, "end")...)
}

// phrase is a phrase that may be, and its text.
func (r teller) phrase(e api.Expr) (api.Phrase, string) {
	p := api.Phrase{Kind: 1 + r.Intn(4), Name: r.name(), E: e}
	switch p.Kind {
	case api.PLet:
		return p, r.words("let", p.Name, r.behind("=", p.E))
	case api.PRec:
		p.E = fun(r.name(), e)
		return p, r.words("let", "rec", p.Name, r.behind("=", p.E))
	case api.PClass:
		p.Names = []string{"x", "y", "x"}[:r.Intn(4)]
		p.E = r.object(3)
		return p, r.words("class", p.Name, r.words(p.Names...), "=", r.members(p.E))
	}
	return phrase(e), r.told(e, 0)
}

// P4.1, P4.3: what is told, with notes, blanks and brackets, is read as what it was; what is read may be.
func TestTold(t *testing.T) {
	r := teller{rand.New(rand.NewSource(5))}
	for range 20000 {
		e := r.expr(r.Intn(6))
		if no := tree.Check(e); no != api.OK {
			t.Fatal(e, no)
		}
		s := r.told(e, 0)
		if len(s) > api.MaxText/2 {
			continue
		}
		got, at, no := parse.Expr(s)
		if no != api.OK || at != 0 || !tree.Same(got, e) {
			t.Fatalf("Expr(%q) = %v, %d, %d, want %v", s, got, at, no, e)
		}
		p, s := r.phrase(e)
		q, at, no := parse.Parse(s)
		if no != api.OK || at != 0 || !samePhrase(p, q) || parse.Check(q) != api.OK {
			t.Fatalf("Parse(%q) = %v, %d, %d, want %v", s, q, at, no, p)
		}
	}
}

// Rule 4: an answer's lists share no memory, spare room included; and what is asked twice is answered twice.
func TestNewMemory(t *testing.T) {
	r := teller{rand.New(rand.NewSource(6))}
	for range 3000 {
		p, s := r.phrase(r.expr(5))
		a, _, _ := parse.Parse(s)
		b, _, _ := parse.Parse(s)
		for _, x := range []*api.Phrase{&a, &b} {
			room(x.Names, "spoilt")
			spoil(&x.E)
			if !samePhrase(*x, p) && len(s) < api.MaxText {
				t.Fatalf("%q: %v, want %v", s, *x, p)
			}
		}
	}
}

// spoil writes into all spare room of a tree's lists.
func spoil(e *api.Expr) {
	room(e.Args, api.Expr{Kind: 99})
	room(e.Names, "spoilt")
	spoilTypes(e.Types)
	room(e.Members, api.Member{Kind: 99})
	for i := range e.Args {
		spoil(&e.Args[i])
	}
	for i := range e.Members {
		m := &e.Members[i]
		room(m.Args, api.Expr{Kind: 99})
		spoilTypes(m.Types)
		for i := range m.Args {
			spoil(&m.Args[i])
		}
	}
}

func spoilTypes(l []api.Type) {
	room(l, api.Type{Kind: 99})
	for _, t := range l {
		room(t.Labels, "spoilt")
		spoilTypes(t.Args)
	}
}

func room[T any](l []T, bad T) {
	for i := len(l); i < cap(l); i++ {
		l[:cap(l)][i] = bad
	}
}

// P1: what is deeper than calls within calls can go, with and without its end, and with what is wrong innermost.
func TestVeryDeep(t *testing.T) {
	defer debug.SetMaxStack(debug.SetMaxStack(1 << 20))
	for _, n := range append(slices.Clone(nests), []struct{ ahead, behind string }{{"(", ")"}, {"{< x = ", " >}"}, {"object val x = ", " end"}, {"object method m x = ", " end"}, {"object inherit c (", ") end"}, {"x = 1 ; x - 1 * (", ")"}, {"x; ", ""}, {"x+", ""}, {"x#m ", ""}, {"x*", ""}, {"let rec f x = ", " in x"}}...) {
		levels := (api.MaxText - 20) / (len(n.ahead) + len(n.behind))
		ahead, behind := strings.Repeat(n.ahead, levels), strings.Repeat(n.behind, levels)
		if n.ahead == "(" && n.behind == ")" {
			wantExpr1(t, ahead+"x"+behind, x)
		} else {
			wantNoExpr(t, ahead+"x"+behind, 0, api.ErrDeep)
			wantNoPhrase(t, "let x="+ahead+"x"+behind, 0, api.ErrDeep)
		}
		wantNoExpr(t, ahead+":>", len(ahead), api.ErrForm)
		if n.behind != "" {
			wantNoExpr(t, ahead+"x", len(ahead)+1, api.ErrForm)
		}
		if !slices.Contains([]string{"x+", "x*", "x#m "}, n.ahead) {
			wantNoExpr(t, ahead+"let rec f=1", len(ahead)+8, api.ErrForm)
		}
	}
	brackets := strings.Repeat("(", 20000)
	wantNoPhrase(t, "(x : "+brackets, 5+len(brackets), api.ErrForm)
	sends := strings.Repeat("#m", 20000)
	wantNoExpr(t, "x"+sends, 0, api.ErrDeep)
	wantNoExpr(t, "x"+sends+"#", 2+len(sends), api.ErrForm)
	members := strings.Repeat("virtual m:int ", 4000)
	if e, _, no := parse.Expr("object " + members + "end"); no != api.OK || len(e.Members) != 4000 {
		t.Errorf("%d members, %d", len(e.Members), no)
	}
	args := strings.Repeat(" x", 30000)
	if e, _, no := parse.Expr("new c" + args); no != api.OK || len(e.Args) != 30000 {
		t.Errorf("%d args, %d", len(e.Args), no)
	}
	p, _, no := parse.Parse("class c" + args + "= object inherit c end")
	if no != api.OK || len(p.Names) != 30000 {
		t.Errorf("%d names, %d", len(p.Names), no)
	}
}

// P1, rule 1: any bytes at all.
func TestAnyBytes(t *testing.T) {
	r := rand.New(rand.NewSource(7))
	for range 30000 {
		b := make([]byte, r.Intn(12))
		for i := range b {
			b[i] = byte(r.Intn(256))
			if r.Intn(4) > 0 {
				b[i] = " x1()<>{}=;:#.'\"\\*-+,"[r.Intn(21)]
			}
		}
		s := string(b)
		p, at, no := parse.Parse(s)
		e, at2, no2 := parse.Expr(s)
		if no != no2 || at != at2 || !tree.Same(p.E, e) || at < 0 || at > len(s) || (no == api.OK) != (p.Kind == api.PExpr) {
			t.Fatalf("%q: %v, %d, %d; %v, %d, %d", s, p, at, no, e, at2, no2)
		}
	}
}
