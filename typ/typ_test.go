package typ_test

import (
	"math"
	"slices"
	"strings"
	"testing"

	"trefoil/api"
	"trefoil/lex"
	"trefoil/tree"
	"trefoil/typ"
)

func tvar(s string) api.Type { return api.Type{Kind: api.TVar, S: s} }
func con(s string, args ...api.Type) api.Type {
	return api.Type{Kind: api.TCon, S: s, Args: args}
}
func arrow(a, b api.Type) api.Type { return con("->", a, b) }
func times(a, b api.Type) api.Type { return con("*", a, b) }
func tas(s string, arg api.Type) api.Type {
	return api.Type{Kind: api.TAs, S: s, Args: []api.Type{arg}}
}
func open(l string, a ...api.Type) api.Type { return tobj(true, l, a...) }
func shut(l string, a ...api.Type) api.Type { return tobj(false, l, a...) }
func tobj(open bool, labels string, args ...api.Type) api.Type {
	return api.Type{Kind: api.TObj, Open: open, Labels: strings.Fields(labels), Args: args}
}

var (
	integer, boolean, str, unit = con("int"), con("bool"), con("string"), con("unit")

	a, b, c = tvar("a"), tvar("b"), tvar("c")
	longest = strings.Repeat("w", api.MaxName)
	tooLong = longest + "w"
)

func lexed(t *testing.T, text string) []api.Token {
	t.Helper()
	l, at, e := lex.Lex(text)
	if e != api.OK {
		t.Fatalf("Lex(%.80q): %d at %d", text, e, at)
	}
	return l
}

// wantType holds Parse to a type that all tokens of a text but the last left ones are, wherever it stands.
func wantType(t *testing.T, text string, left int, want api.Type) {
	t.Helper()
	for _, ahead := range []string{"", "x", ") -> ( < as 1"} {
		at := len(lexed(t, ahead)) - 1
		l := lexed(t, ahead+" "+text)
		got, behind, e := typ.Parse(l, at)
		if e != api.OK || behind != len(l)-1-left || !tree.SameType(got, want) {
			t.Errorf("Parse(%.200q, %d) = %v, %d, %d, want %v, %d", ahead+" "+text, at, got, behind, e, want, len(l)-1-left)
		}
	}
}

// wantFault holds Parse to an error at a token of a text, wherever that stands.
func wantFault(t *testing.T, text string, place int, want api.Errno) {
	t.Helper()
	for _, ahead := range []string{"", "x", "'a -> <"} {
		at := len(lexed(t, ahead)) - 1
		wantNone(t, lexed(t, ahead+" "+text), at, at+place, want)
	}
}

func wantNone(t *testing.T, l []api.Token, at, place int, want api.Errno) {
	t.Helper()
	got, behind, e := typ.Parse(l, at)
	if e != want || behind != place || !tree.SameType(got, api.Type{}) {
		t.Errorf("Parse(%.300v, %d) = %v, %d, %d, want no type, %d, %d", l, at, got, behind, e, place, want)
	}
}

// P3.1: atoms, and what stands behind what.
func TestParse(t *testing.T) {
	for text, want := range map[string]api.Type{
		"int": integer, "bool": boolean, "string": str, "unit": unit, "'a": a, "'let": tvar("let"), "'int": tvar("int"), "'" + longest: tvar(longest),
		"(int)": integer, "((('a)))": a,
		"int -> bool": arrow(integer, boolean), "'a -> 'b -> 'c": arrow(a, arrow(b, c)), "('a -> 'b) -> 'c": arrow(arrow(a, b), c), "'a -> ('b -> 'c)": arrow(a, arrow(b, c)),
		"'a * 'b": times(a, b), "'a * 'b * 'c": times(a, times(b, c)), "('a * 'b) * 'c": times(times(a, b), c), "'a * ('b * 'c)": times(a, times(b, c)),
		"'a * 'b -> 'c": arrow(times(a, b), c), "'a -> 'b * 'c": arrow(a, times(b, c)), "'a * ('b -> 'c)": times(a, arrow(b, c)), "('a -> 'b) * 'c": times(arrow(a, b), c),
		"'a * 'b -> 'b * 'c -> 'c * 'a": arrow(times(a, b), arrow(times(b, c), times(c, a))),
		"int as 'a":                     tas("a", integer), "'a as 'a as 'in as 'b": tas("b", tas("in", tas("a", a))), "('a as 'b) as 'c": tas("c", tas("b", a)),
		"'a -> 'b as 'c": tas("c", arrow(a, b)), "'a * 'b as 'c": tas("c", times(a, b)), "'a -> ('b as 'c)": arrow(a, tas("c", b)), "('a as 'b) * 'c": times(tas("b", a), c), "'a * ('b as 'c)": times(a, tas("c", b)),
		"int -> (int -> 'a) * bool as 'b": tas("b", arrow(integer, times(arrow(integer, a), boolean))),
	} {
		wantType(t, text, 0, want)
		wantType(t, "("+text+")", 0, want)
		wantType(t, "("+text+") -> 'z", 0, arrow(want, tvar("z")))
		wantType(t, "'z * ("+text+")", 0, times(tvar("z"), want))
		wantType(t, "< z : ("+text+") >", 0, shut("z", want))
	}
}

// P3.1: objects; their labels are put in order, with their types.
func TestParseObjects(t *testing.T) {
	for text, want := range map[string]api.Type{
		"< >": shut(""), "<..>": open(""), "< m : int >": shut("m", integer), "< m : int ; .. >": open("m", integer), "< _ : 'a >": shut("_", a), "< int : int >": shut("int", integer),
		"< b : 'b ; a : 'a >": shut("a b", a, b), "< b : 'b ; c : 'c ; a : 'a ; .. >": open("a b c", a, b, c), "< b : 'a ; aa : 'b ; aB : 'c ; a : int ; _ : bool >": shut("_ a aB aa b", boolean, integer, c, b, a),
		"< m : 'a -> 'b * 'c ; n : 'a >": shut("m n", arrow(a, times(b, c)), a), "< m : ('a as 'b) ; n : 'a >": shut("m n", tas("b", a), a), "< m : < m : < > > >": shut("m", shut("m", shut(""))),
		"< n : < m : 'a ; .. > -> 'b ; m : < n : 'b > * < > >": shut("m n", times(shut("n", b), shut("")), arrow(open("m", a), b)), "< " + longest + ":" + "'a >": shut(longest, a),
	} {
		wantType(t, text, 0, want)
		wantType(t, text+" as 'a", 0, tas("a", want))
		wantType(t, text+" -> "+text+" * "+text, 0, arrow(want, times(want, want)))
		wantType(t, "(< x : "+text+" ; .. >)", 0, open("x", want))
	}
}

// P3.1: a type goes as far as it goes; what is behind it may be anything else.
func TestParseBehind(t *testing.T) {
	for _, behind := range []string{")", ">", ";", ":>", "..", "int", "'a", "(", "<", "as2", "<-", "=", "1", "\"->\"", "end", "in", "method", ",", "+", "/", "{<", ">}"} {
		left := len(lexed(t, behind)) - 1
		wantType(t, "int "+behind, left, integer)
		wantType(t, "'a -> 'b * 'c "+behind+" * 'a", left+2, arrow(a, times(b, c)))
		wantType(t, "('a) as 'b "+behind+" -> 'a", left+2, tas("b", a))
		wantType(t, "< m : int > "+behind+" as 'b", left+2, shut("m", integer))
	}
}

// P3.1: a Key as, a -> and a * behind a type belong to it in any case.
func TestParseBelongs(t *testing.T) {
	for _, ahead := range []string{"int", "'a -> 'b", "'a * 'b", "'a as 'b", "'a as 'b as 'c", "(int)", "('a as 'b)", "< >"} {
		size := len(lexed(t, ahead)) - 1
		wantFault(t, ahead+" as", size+1, api.ErrForm)
		wantFault(t, ahead+" as int", size+1, api.ErrForm)
		wantFault(t, ahead+" as as 'a", size+1, api.ErrForm)
		if strings.Contains(ahead, " as ") && !strings.HasPrefix(ahead, "(") {
			wantFault(t, ahead+" -> 'a", size, api.ErrForm)
			wantFault(t, ahead+" * 'a", size, api.ErrForm)
			continue
		}
		for _, sign := range []string{"->", "*"} {
			wantFault(t, ahead+" "+sign, size+1, api.ErrForm)
			wantFault(t, ahead+" "+sign+" )", size+1, api.ErrForm)
			wantFault(t, ahead+" "+sign+" as 'a", size+1, api.ErrForm)
			wantFault(t, ahead+" "+sign+" -> 'a", size+1, api.ErrForm)
		}
	}
}

// P3.1: the first token with which no type goes on.
func TestParseFaults(t *testing.T) {
	faults := []struct {
		text  string
		place int
	}{
		{"", 0}, {"x", 0}, {"self", 0}, {"float", 0}, {"as", 0}, {"let", 0}, {"1", 0}, {"\"int\"", 0}, {")", 0}, {">", 0}, {"..", 0}, {"->", 0}, {"*", 0}, {":", 0}, {"{< >}", 0},
		{"(", 1}, {"()", 1}, {"(int", 2}, {"(int bool)", 2}, {"(int ; int)", 2}, {"((int)", 4}, {"(int >", 2}, {"(x", 1}, {"('a as 'b -> 'c)", 4}, {"('a as 'b * 'c)", 4}, {"(int, int)", 2},
		{"<", 1}, {"< x", 2}, {"< 1", 1}, {"< 'a : int >", 1}, {"< let : int >", 1}, {"< ; >", 1}, {"< , >", 1}, {"< )", 1}, {"< :", 1},
		{"< m >", 2}, {"< m = int >", 2}, {"< m int >", 2}, {"< m :", 3}, {"< m : >", 3}, {"< m : ; n : int >", 3}, {"< m : .. >", 3},
		{"< m : int", 4}, {"< m : int )", 4}, {"< m : int , n : int >", 4}, {"< m : int n : int >", 4}, {"< m : int ;", 5}, {"< m : int ; >", 5}, {"< m : int ;; >", 5}, {"< m : int >}", 4},
		{"< m : int as 'a >", 4}, {"< m : 'a -> 'b as 'a >", 6}, {"< m : (int as 'a -> 'b) >", 7}, {"< m : int -> ; .. >", 5}, {"< m : int .. >", 4},
		{"< .. ; m : int >", 2}, {"< .. .. >", 2}, {"< ..", 2}, {"< .. ; >", 2}, {"< m : int ; .. ; .. >", 6}, {"< m : int ; ..", 6},
		{"int -> x", 2}, {"int * (bool -> x", 5}, {"'a as 'b as", 4}, {"< m : < n : x > >", 6}, {"< m : int ; n : < m : x", 10},
	}
	for _, f := range faults {
		wantFault(t, f.text, f.place, api.ErrForm)
	}
}

// P3.1: a label that stood there already is told at its Name, once its type is read, and ahead of what is behind that.
func TestParseTwice(t *testing.T) {
	wantFault(t, "< m : int ; m : int >", 5, api.ErrForm)
	wantFault(t, "< m : int ; m : int ; n : int >", 5, api.ErrForm)
	wantFault(t, "< m : int ; n : int ; m : 'a ; n : 'b ; .. >", 9, api.ErrForm)
	wantFault(t, "< m : int ; n : int ; n : 'a ; m : 'b ; .. >", 9, api.ErrForm)
	wantFault(t, "< m : int ; m : int", 5, api.ErrForm)
	wantFault(t, "< m : int ; m : int )", 5, api.ErrForm)
	wantFault(t, "< m : int ; m : int as 'a >", 5, api.ErrForm)
	wantFault(t, "< m : int ; m : int ; >", 5, api.ErrForm)
	wantFault(t, "< m : int ; m : int -> 'a * 'b x", 5, api.ErrForm)
	wantFault(t, "< m : < n : 'a ; n : 'b > ; m : int >", 8, api.ErrForm)
	wantFault(t, "< m : int ; m : < n : int ; n : int > >", 12, api.ErrForm)
	// What is wrong in its type comes first.
	wantFault(t, "< m : int ; m", 6, api.ErrForm)
	wantFault(t, "< m : int ; m : >", 7, api.ErrForm)
	wantFault(t, "< m : int ; m : int -> >", 9, api.ErrForm)
	wantFault(t, "< m : int ; m : int * (x) >", 10, api.ErrForm)
	// Each object has labels of its own.
	wantType(t, "< m : < m : < m : 'a > > ; n : < m : 'b ; n : 'c > >", 0, shut("m n", shut("m", shut("m", a)), shut("m n", b, c)))
}

// P3.1: what l and at must be.
func TestParseArguments(t *testing.T) {
	l := lexed(t, "int -> 'a")
	for _, at := range []int{-1, len(l), len(l) + 1, math.MaxInt, math.MinInt} {
		wantNone(t, l, at, 0, api.ErrArg)
	}
	wantNone(t, l, len(l)-1, len(l)-1, api.ErrForm)
	wantNone(t, nil, 0, 0, api.ErrArg)
	wantNone(t, []api.Token{}, 0, 0, api.ErrArg)
	wantNone(t, nil, -1, 0, api.ErrArg)
	name, end := l[0], api.Token{Kind: api.End, At: 3}
	wantNone(t, []api.Token{end}, 0, 0, api.ErrForm)
	for _, l := range [][]api.Token{{name}, {name, name}, {end, name}, {end, end}, {name, end, end}, {end, name, end}, {name, end, name, end}, {name, end, name}, {name, {}, name, {}}} {
		for at := range l {
			wantNone(t, l, at, 0, api.ErrArg)
		}
		wantNone(t, l, len(l), 0, api.ErrArg)
	}
	// A token's place is that in the list, not that in the text.
	for i := range l {
		l[i].At = 1000 - i
	}
	if got, behind, e := typ.Parse(l, 0); e != api.OK || behind != 3 || !tree.SameType(got, arrow(integer, a)) {
		t.Errorf("%v, %d, %d", got, behind, e)
	}
	wantNone(t, l, 1, 1, api.ErrForm)
}

func token(kind int, s string) api.Token { return api.Token{Kind: kind, S: s} }

// listed is tokens of a text, but those of a Kind with other words: each Str is a Tick of that text, each Int a Name (or what else is told).
func listed(t *testing.T, text, word string, name api.Token) []api.Token {
	t.Helper()
	l := lexed(t, text)
	for i := range l {
		switch l[i].Kind {
		case api.Str:
			l[i] = token(api.Tick, word)
		case api.Int:
			l[i] = name
		}
	}
	return l
}

// P3.1: words of tokens that no text has.
func TestParseWords(t *testing.T) {
	for _, word := range []string{"", "A", "1", "a b", "'a", "é", "a\x00", tooLong} {
		for _, text := range []string{"\"\"", "int as \"\"", "int -> (\"\") * bool", "< m : \"\" >", "< n : int ; m : ('a as \"\") ; .. > -> int", "< 0 : int >", "< a : int ; 0 : < > ; .. >", "int -> < a : < 0 : int > >"} {
			at := len(lexed(t, "x = (")) - 1
			wantNone(t, listed(t, text, word, token(api.Name, word)), 0, 0, api.ErrForm)
			wantNone(t, listed(t, "x = ("+text+")", word, token(api.Name, word)), at, at, api.ErrForm)
		}
		// A token with which no type goes on is told ahead of that, and a label that is there twice.
		wantNone(t, listed(t, "int -> \"\" * )", word, api.Token{}), 0, 4, api.ErrForm)
		wantNone(t, listed(t, "< m : \"\" ; m : \"\" >", word, api.Token{}), 0, 5, api.ErrForm)
		wantNone(t, listed(t, "< 0 : int ; 0 : int >", word, token(api.Name, word)), 0, 5, api.ErrForm)
		wantNone(t, listed(t, "0", word, token(api.Name, word)), 0, 0, api.ErrForm)
	}
	wantNone(t, listed(t, "< 0 : int >", "", token(api.Name, "let")), 0, 0, api.ErrForm)
	// Tokens that are another Kind's.
	for _, kind := range []int{-1, 7, math.MaxInt, math.MinInt, api.Str, api.Int} {
		for _, s := range []string{"int", "(", "<", "a", "->", "as", ""} {
			wantNone(t, listed(t, "0", "", token(kind, s)), 0, 0, api.ErrForm)
			wantNone(t, listed(t, "int -> 0", "", token(kind, s)), 0, 2, api.ErrForm)
			if got, behind, e := typ.Parse(listed(t, "int 0 'a", "", token(kind, s)), 0); e != api.OK || behind != 1 || !tree.SameType(got, integer) {
				t.Errorf("Kind %d, %q: %v, %d, %d", kind, s, got, behind, e)
			}
		}
	}
	for _, x := range []api.Token{token(api.Key, "->"), token(api.Sym, "as"), token(api.Name, "as"), token(api.Name, "*"), token(api.Tick, "as"), token(api.Sym, "**"), token(api.Sym, "")} {
		if got, behind, e := typ.Parse(listed(t, "int 0 'a", "", x), 0); e != api.OK || behind != 1 || !tree.SameType(got, integer) {
			t.Errorf("%v: %v, %d, %d", x, got, behind, e)
		}
	}
	for _, x := range []api.Token{token(api.Key, "int"), token(api.Sym, "int"), token(api.Name, "("), token(api.Key, "<"), token(api.Name, "Int"), token(api.Name, "int ")} {
		wantNone(t, listed(t, "0 : int )", "", x), 0, 0, api.ErrForm)
	}
}

// deepTexts are texts of types of some levels, the deepest part being of that text.
func deepTexts(levels int, part string) []string {
	n := levels - 1
	return []string{
		strings.Repeat("int -> ", n) + part, strings.Repeat("int * ", n) + part, strings.Repeat("< m : ", n) + part + strings.Repeat(" >", n),
		"(" + part + ")" + strings.Repeat(" as 'a", n), strings.Repeat("(", n) + part + strings.Repeat(" * int)", n), strings.Repeat("(", n) + part + strings.Repeat(" -> int)", n),
	}
}

// P3.1: how deep it may be; brackets are no level.
func TestParseDeep(t *testing.T) {
	for i := range deepTexts(1, "") {
		text := func(levels int, part string) string { return deepTexts(levels, part)[i] }
		for _, levels := range []int{api.MaxDeep - 1, api.MaxDeep} {
			if _, behind, e := typ.Parse(lexed(t, text(levels, "int")), 0); e != api.OK || behind != len(lexed(t, text(levels, "int")))-1 {
				t.Errorf("%d levels: %d, %d", levels, behind, e)
			}
		}
		for _, levels := range []int{api.MaxDeep + 1, api.MaxDeep + 2, 3 * api.MaxDeep} {
			wantFault(t, text(levels, "int"), 0, api.ErrDeep)
			wantFault(t, "int * ("+text(levels-1, "int")+")", 0, api.ErrDeep)
			wantFault(t, text(levels, "int")+" ;", 0, api.ErrDeep)
			// What is wrong in it comes first, and words that may not be, wherever they are.
			l := lexed(t, text(levels, "x"))
			wantFault(t, text(levels, "x"), slices.IndexFunc(l, func(x api.Token) bool { return x.S == "x" }), api.ErrForm)
			wantFault(t, "("+text(levels, "int")+") * )", len(l)+2, api.ErrForm)
			wantFault(t, "< m : ("+text(levels, "int")+") ; m : int >", len(l)+5, api.ErrForm)
			wantNone(t, listed(t, text(levels, "\"\""), "A", api.Token{}), 0, 0, api.ErrForm)
			wantNone(t, listed(t, "("+text(levels, "int")+") * \"\"", "A", api.Token{}), 0, 0, api.ErrForm)
			wantNone(t, listed(t, "\"\" -> "+text(levels, "int"), "A", api.Token{}), 0, 0, api.ErrForm)
		}
	}
	wantType(t, strings.Repeat("(", 5000)+"int"+strings.Repeat(")", 5000), 0, integer)
}

var puts = []struct {
	t    api.Type
	want string
}{
	{integer, "int"}, {boolean, "bool"}, {str, "string"}, {unit, "unit"}, {a, "'a"}, {tvar("let"), "'let"}, {tvar(longest), "'" + longest},
	{arrow(a, b), "'a -> 'b"}, {arrow(a, arrow(b, c)), "'a -> 'b -> 'c"}, {arrow(arrow(a, b), c), "('a -> 'b) -> 'c"},
	{times(a, b), "'a * 'b"}, {times(a, times(b, c)), "'a * 'b * 'c"}, {times(times(a, b), c), "('a * 'b) * 'c"},
	{arrow(times(a, b), c), "'a * 'b -> 'c"}, {arrow(a, times(b, c)), "'a -> 'b * 'c"}, {times(arrow(a, b), c), "('a -> 'b) * 'c"}, {times(a, arrow(b, c)), "'a * ('b -> 'c)"},
	{tas("a", integer), "int as 'a"}, {tas("in", tas("b", a)), "'a as 'b as 'in"}, {tas("c", arrow(a, b)), "'a -> 'b as 'c"}, {tas("c", times(a, b)), "'a * 'b as 'c"},
	{arrow(tas("b", a), c), "('a as 'b) -> 'c"}, {arrow(a, tas("c", b)), "'a -> ('b as 'c)"}, {times(tas("b", a), c), "('a as 'b) * 'c"}, {times(a, tas("c", b)), "'a * ('b as 'c)"},
	{arrow(tas("b", tas("c", a)), c), "('a as 'c as 'b) -> 'c"}, {tas("a", arrow(tas("b", arrow(a, b)), c)), "('a -> 'b as 'b) -> 'c as 'a"},
	{shut(""), "< >"}, {open(""), "< .. >"}, {shut("m", integer), "< m : int >"}, {open("m", integer), "< m : int ; .. >"}, {shut("a b", a, b), "< a : 'a ; b : 'b >"}, {open("_ a b", a, b, c), "< _ : 'a ; a : 'b ; b : 'c ; .. >"},
	{shut("m", arrow(a, arrow(b, c))), "< m : 'a -> 'b -> 'c >"}, {shut("m", times(a, b)), "< m : 'a * 'b >"}, {shut("m", tas("a", integer)), "< m : (int as 'a) >"}, {tas("a", shut("m", a)), "< m : 'a > as 'a"},
	{arrow(shut(""), times(open(""), shut("m", shut("n", a)))), "< > -> < .. > * < m : < n : 'a > >"},
	{tas("b", arrow(integer, times(arrow(integer, a), boolean))), "int -> (int -> 'a) * bool as 'b"},
}

// P3.2, P3.3
func TestPut(t *testing.T) {
	for _, p := range puts {
		if got, e := typ.Put(p.t); got != p.want || e != api.OK {
			t.Errorf("Put(%v) = %q, %d, want %q", p.t, got, e, p.want)
		}
		wantType(t, p.want, 0, p.t)
	}
}

// P3.2: layer 2's errors.
func TestPutRefuses(t *testing.T) {
	deep := func(levels int, x api.Type) api.Type {
		for range levels - 1 {
			x = arrow(x, integer)
		}
		return x
	}
	bad := tvar("A")
	for _, x := range []struct {
		t    api.Type
		want api.Errno
	}{
		{api.Type{}, api.ErrArg}, {api.Type{Kind: 5}, api.ErrArg}, {api.Type{Kind: math.MinInt, S: "a"}, api.ErrArg}, {tvar(""), api.ErrArg}, {tvar(tooLong), api.ErrArg}, {con("x"), api.ErrArg}, {con("->", a), api.ErrArg}, {con("*"), api.ErrArg}, {con("int", a), api.ErrArg},
		{shut("b a", a, b), api.ErrArg}, {shut("a a", a, b), api.ErrArg}, {shut("a"), api.ErrArg}, {shut("let", a), api.ErrArg}, {tas("", a), api.ErrArg}, {api.Type{Kind: api.TAs, S: "a"}, api.ErrArg}, {api.Type{Kind: api.TVar, S: "a", Open: true}, api.ErrArg},
		{arrow(a, bad), api.ErrArg}, {shut("m", tas("a", bad)), api.ErrArg}, {deep(api.MaxDeep+1, integer), api.ErrDeep}, {deep(5*api.MaxDeep, bad), api.ErrArg}, {arrow(deep(5*api.MaxDeep, a), bad), api.ErrArg}, {deep(api.MaxDeep, bad), api.ErrArg},
	} {
		if got, e := typ.Put(x.t); got != "" || e != x.want {
			t.Errorf("Put(%.200v) = %.80q, %d, want %d", x.t, got, e, x.want)
		}
	}
	got, e := typ.Put(deep(api.MaxDeep, integer))
	if want := strings.Repeat("(", api.MaxDeep-2) + "int" + strings.Repeat(" -> int)", api.MaxDeep-2) + " -> int"; got != want || e != api.OK {
		t.Errorf("%q, %d", got, e)
	}
}
