package parse_test

import (
	"math/rand"
	"reflect"
	"slices"
	"strconv"
	"strings"
	"testing"

	"trefoil/api"
	"trefoil/lex"
	"trefoil/parse"
	"trefoil/tree"
)

// rules are the chapter's grammar (and layer 3's), a rule a line, as it may be written down for any reader of grammars. What ends in an expression takes each ; behind it: such a one is open, and may not have a field of a clone behind it. A rec has a name behind its own, or a fun: other ones are told in other tests.
const rules = `
phrase = class NAME names = object body | let NAME names = expr | let rec NAME NAME names = expr | expr
names = | names NAME
expr = one | one ; expr
one = closed | open
closed = if expr then one else closed | NAME <- closed | comparison
open = let NAME names = expr in expr | let rec NAME NAME names = expr in expr | fun NAME names -> expr | if expr then one else open | NAME <- open
comparison = sum | sum = sum | sum < sum
sum = product | sum + product | sum - product
product = application | product * application | product / application
application = new NAME sends | send | applied send
applied = send | applied send
sends = | sends send
send = atom | send # NAME
atom = INT | STR | true | false | NAME | ( ) | ( expr ) | ( expr , expr ) | ( expr : type ) | ( expr : type :> type ) | object body | {< >} | {< fields >}
fields = NAME = one | NAME = closed ; fields
body = members end | ( NAME ) members end
members = | members member
member = inherit NAME sends | inherit NAME sends as NAME | val NAME = expr | method NAME names = expr | virtual NAME : type
type = arrow | type as TICK
arrow = times | times -> arrow
times = part | part * times
part = PLAIN | TICK | ( type ) | < > | < .. > | < labels >
labels = LABEL : arrow | LABEL : arrow ; labels | LABEL : arrow ; ..
`

// A grammar is the sides of all rules, and of each rule which ones are its own.
type grammar struct {
	names []string
	sides [][]string
	of    map[string][]int
}

func read(text string) *grammar {
	g := &grammar{of: map[string][]int{}}
	for _, line := range strings.Split(strings.TrimSpace(text), "\n") {
		name, sides, _ := strings.Cut(line, " =")
		for _, side := range strings.Split(sides+" ", " | ") {
			g.of[name] = append(g.of[name], len(g.sides))
			g.names = append(g.names, name)
			g.sides = append(g.sides, strings.Fields(side))
		}
	}
	return g
}

// fits says whether a token is what a grammar's word says.
func fits(word string, t api.Token) bool {
	switch word {
	case "NAME", "LABEL":
		return t.Kind == api.Name
	case "PLAIN":
		return t.Kind == api.Name && slices.Contains([]string{"int", "bool", "string", "unit"}, t.S)
	case "INT":
		return t.Kind == api.Int
	case "STR":
		return t.Kind == api.Str
	case "TICK":
		return t.Kind == api.Tick
	}
	return (t.Kind == api.Key || t.Kind == api.Sym) && t.S == word
}

// An item is a side of a rule, how much of it is read, and where that began.
type item struct{ side, at, from int32 }

type items map[item]struct{}

// A reader keeps all that might be read behind each token of a text, and knows of no levels. It keeps it for the next text, too, as far as that one begins so.
type reader struct {
	*grammar
	start string
	l     []api.Token
	sets  []items
}

func (g *grammar) reader(start string) *reader {
	r := &reader{grammar: g, start: start}
	r.sets = []items{r.closure(r.begun(start, 0), 0)}
	return r
}

func (r *reader) begun(name string, here int32) []item {
	var l []item
	for _, i := range r.of[name] {
		l = append(l, item{int32(i), 0, here})
	}
	return l
}

// stop is the place of the first token with which no text of the grammar goes on, whatever comes behind it; -1, if all of l is one.
func (r *reader) stop(l []api.Token) int {
	same := 0
	for same < len(r.l) && same < len(l) && r.l[same].Kind == l[same].Kind && r.l[same].S == l[same].S {
		same++
	}
	r.l, r.sets = r.l[:same], r.sets[:same+1]
	for _, t := range l[same : len(l)-1] {
		r.l = append(r.l, t)
		r.sets = append(r.sets, r.next(t))
	}
	for i := range l {
		if len(r.sets[i]) == 0 {
			return i - 1
		}
	}
	for x := range r.sets[len(l)-1] {
		if x.from == 0 && r.names[x.side] == r.start && int(x.at) == len(r.sides[x.side]) {
			return -1
		}
	}
	return len(l) - 1
}

// next is what might be read behind t, that comes next.
func (r *reader) next(t api.Token) items {
	var first []item
	for x := range r.sets[len(r.sets)-1] {
		if word := r.word(x); r.of[word] == nil && fits(word, t) {
			first = append(first, item{x.side, x.at + 1, x.from})
		}
	}
	return r.closure(first, int32(len(r.sets)))
}

// word is what an item goes on with.
func (r *reader) word(x item) string {
	if side := r.sides[x.side]; int(x.at) < len(side) {
		return side[x.at]
	}
	return ""
}

// closure is all that is to be read here, with the first ones.
func (r *reader) closure(first []item, here int32) items {
	s := items{}
	var work []item
	add := func(l ...item) {
		for _, x := range l {
			if _, ok := s[x]; !ok {
				s[x] = struct{}{}
				work = append(work, x)
			}
		}
	}
	add(first...)
	for len(work) > 0 {
		x := work[len(work)-1]
		work = work[:len(work)-1]
		if word := r.word(x); word != "" {
			add(r.begun(word, here)...)
			if of := r.of[word]; of != nil && len(r.sides[of[0]]) == 0 {
				add(item{x.side, x.at + 1, x.from})
			}
		} else if x.from < here {
			for y := range r.sets[x.from] {
				if r.word(y) == r.names[x.side] {
					add(item{y.side, y.at + 1, y.from})
				}
			}
		}
	}
	return s
}

// make is tokens' texts of a rule, at random, up to a depth; behind that by such sides alone as end.
func (g *grammar) make(r *rand.Rand, word string, deep int, labels *int) []string {
	of := g.of[word]
	if of == nil {
		return []string{token(r, word, labels)}
	}
	i := r.Intn(len(of))
	if deep <= 0 {
		i = ending(r, word)
	}
	var l []string
	for _, w := range g.sides[of[i]] {
		l = append(l, g.make(r, w, deep-1, labels)...)
	}
	return l
}

func ending(r *rand.Rand, word string) int {
	switch word {
	case "atom":
		return r.Intn(6)
	case "closed":
		return 2
	case "part", "application":
		return r.Intn(2)
	}
	return 0
}

func token(r *rand.Rand, word string, labels *int) string {
	switch word {
	case "NAME":
		return []string{"x", "y", "int", "_"}[r.Intn(4)]
	case "LABEL":
		*labels++
		return "l" + strconv.Itoa(*labels)
	case "PLAIN":
		return []string{"int", "bool", "string", "unit"}[r.Intn(4)]
	case "INT":
		return strconv.Itoa(r.Intn(100))
	case "STR":
		return `"a\n"`
	case "TICK":
		return []string{"'a", "'in"}[r.Intn(2)]
	}
	return word
}

// all are texts of tokens of all sorts.
var all = strings.Fields(`and as class else end false fun if in inherit let method new object rec then true val virtual
	x int 1 "" 'a -> <- :> .. {< >} ( ) ; : = < > + - * / , #`)

// Readers are those of phrases, and of expressions.
type readers struct{ phrase, expr *reader }

// agrees holds Parse and Expr to the grammar; but for a rec that has no name behind its own, and for labels that are there twice.
func (r readers) agrees(t *testing.T, words []string) {
	t.Helper()
	s := strings.Join(words, " ")
	l, _, no := lex.Lex(s)
	if no != api.OK {
		t.Fatalf("%q: %d", s, no)
	}
	if recOfNone(l) {
		return
	}
	wantAt, wantNo := r.phrase.answer(l)
	p, at, no := parse.Parse(s)
	if no == api.ErrDeep || isTwice(l, at) && wantAt != at {
		return
	}
	if at != wantAt || no != wantNo || no != api.OK && !reflect.DeepEqual(p, api.Phrase{}) || no == api.OK && parse.Check(p) != api.OK {
		t.Fatalf("Parse(%q) = %v, %d, %d, want %d, %d", s, p, at, no, wantAt, wantNo)
	}
	wantAt, wantNo = r.expr.answer(l)
	e, at, no := parse.Expr(s)
	if at != wantAt || no != wantNo || no != api.OK && !reflect.DeepEqual(e, api.Expr{}) || no == api.OK && tree.Check(e) != api.OK {
		t.Fatalf("Expr(%q) = %v, %d, %d, want %d, %d", s, e, at, no, wantAt, wantNo)
	}
}

func (r *reader) answer(l []api.Token) (int, api.Errno) {
	if i := r.stop(l); i >= 0 {
		return l[i].At, api.ErrForm
	}
	return 0, api.OK
}

// recOfNone says whether a rec's name has no name behind it.
func recOfNone(l []api.Token) bool {
	for i := range l {
		if l[i].S == "rec" && l[i].Kind == api.Key && l[i+1].Kind == api.Name && l[i+2].S == "=" {
			return true
		}
	}
	return false
}

// isTwice says whether a label stands at a place that stood somewhere ahead of it, too.
func isTwice(l []api.Token, at int) bool {
	seen := map[string]int{}
	for i := range l[:len(l)-1] {
		if l[i].Kind == api.Name && l[i+1].S == ":" {
			seen[l[i].S]++
			if l[i].At == at && seen[l[i].S] > 1 {
				return true
			}
		}
	}
	return false
}

// contexts are what may stand ahead of tokens.
var contexts = []string{
	"", "x", "f x", "x ;", "x =", "x +", "x *", "x #", "new", "new c", "new c x", "let", "let f", "let f x =", "let x = 1", "let x = 1 in", "let rec", "let rec f", "let rec f x =", "let rec f x = 1 in", "fun", "fun x", "fun x ->", "if", "if x", "if x then", "if x then 1", "if x then 1 else", "if x then 1 else 2", "x <-", "x <- 1",
	"(", "( x", "( x ,", "( x , 1", "( x :", "( x : int", "( x : int as", "( x : int as 'a", "( x : <", "( x : < l", "( x : < l :", "( x : < l : int", "( x : < l : int ;", "( x : < ..", "( x : int ->", "( x : (", "( x : ( int", "( x : int :>", "( x : int :> int", "()", "{<", "{< x", "{< x =", "{< x = 1", "{< x = 1 ;", "{< x = fun y -> 1", "{< x = if 1 then 2 else let y = 1 in 2", "{< x = y <- fun z -> y ; y =", "{< >}",
	"object", "object (", "object ( s", "object ( s )", "object end", "object inherit", "object inherit c", "object inherit c x", "object inherit c as", "object inherit c as p", "object val", "object val x", "object val x =", "object val x = 1", "object method", "object method m", "object method m x", "object method m =", "object method m = 1", "object virtual", "object virtual m", "object virtual m :", "object virtual m : int", "object virtual m : int as 'a",
	"class", "class c", "class c x", "class c x =", "class c = object", "class c = object end", "class c = object val x = 1",
}

// P4.1: whatever two tokens stand behind a beginning.
func TestAsGrammar(t *testing.T) {
	g := read(rules)
	r := readers{g.reader("phrase"), g.reader("expr")}
	for _, context := range contexts {
		for _, a := range all {
			r.agrees(t, []string{context, a})
			for _, b := range all {
				r.agrees(t, []string{context, a, b})
			}
		}
	}
}

// P4.1: texts of the grammar, and such with a token changed, left out or put in.
func TestAsGrammarAtRandom(t *testing.T) {
	g := read(rules)
	r := readers{g.reader("phrase"), g.reader("expr")}
	random := rand.New(rand.NewSource(4))
	phrases := 0
	for range 5000 {
		labels := 0
		words := g.make(random, "phrase", 4+random.Intn(9), &labels)
		if len(words) > 60 {
			continue
		}
		phrases++
		r.agrees(t, words)
		for range 4 {
			r.agrees(t, changed(random, words))
		}
	}
	if phrases < 2000 {
		t.Errorf("%d phrases alone", phrases)
	}
}

func changed(r *rand.Rand, words []string) []string {
	i := r.Intn(len(words))
	switch r.Intn(4) {
	case 0:
		return slices.Delete(slices.Clone(words), i, i+1)
	case 1:
		return slices.Insert(slices.Clone(words), i, all[r.Intn(len(all))])
	case 2:
		return words[:i]
	}
	words = slices.Clone(words)
	words[i] = all[r.Intn(len(all))]
	return words
}
