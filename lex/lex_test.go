package lex_test

import (
	"math"
	"slices"
	"strings"
	"testing"

	"trefoil/api"
	"trefoil/lex"
)

// allKeys and allSymbols are told here once more, so that one that is amiss in the package shows.
const (
	allKeys    = "and as class else end false fun if in inherit let method new object rec then true val virtual"
	allSymbols = "-> <- :> .. {< >} ( ) ; : = < > + - * / , #"
)

func nameAt(at int, s string) api.Token { return api.Token{Kind: api.Name, At: at, S: s} }
func keyAt(at int, s string) api.Token  { return api.Token{Kind: api.Key, At: at, S: s} }
func intAt(at int, n int64) api.Token   { return api.Token{Kind: api.Int, At: at, N: n} }
func strAt(at int, s string) api.Token  { return api.Token{Kind: api.Str, At: at, S: s} }
func tickAt(at int, s string) api.Token { return api.Token{Kind: api.Tick, At: at, S: s} }
func symAt(at int, s string) api.Token  { return api.Token{Kind: api.Sym, At: at, S: s} }
func endAt(at int) api.Token            { return api.Token{Kind: api.End, At: at} }

func wantTokens(t *testing.T, text string, want ...api.Token) {
	t.Helper()
	got, at, e := lex.Lex(text)
	if e != api.OK || at != 0 || !slices.Equal(got, want) {
		t.Errorf("Lex(%.80q) = %v, %d, %d, want %v", text, got, at, e, want)
	}
}

func wantFault(t *testing.T, text string, place int) {
	t.Helper()
	got, at, e := lex.Lex(text)
	if e != api.ErrLex || at != place || len(got) != 0 {
		t.Errorf("Lex(%.80q) = %v, %d, %d, want no tokens, %d, ErrLex", text, got, at, e, place)
	}
}

// P1.1: what is passed over, and the end.
func TestLexBlanksAndNotes(t *testing.T) {
	wantTokens(t, "", endAt(0))
	wantTokens(t, "\t\n\r ", endAt(4))
	wantTokens(t, " x\t\r\ny ", nameAt(1, "x"), nameAt(5, "y"), endAt(7))
	wantTokens(t, "(**)", endAt(4))
	wantTokens(t, "(* (* *)x", nameAt(8, "x"), endAt(9))
	wantTokens(t, "a(*\x00?\"'\\é\n**)b", nameAt(0, "a"), nameAt(14, "b"), endAt(15))
	wantTokens(t, "(*)*)x", nameAt(5, "x"), endAt(6))
	wantTokens(t, "(*a*)*)", symAt(5, "*"), symAt(6, ")"), endAt(7))
	wantTokens(t, "( *)", symAt(0, "("), symAt(2, "*"), symAt(3, ")"), endAt(4))
	wantTokens(t, "\"(*\"*)", strAt(0, "(*"), symAt(4, "*"), symAt(5, ")"), endAt(6))
}

// P1.1: words, with and without a tick, and numbers.
func TestLexWordsAndNumbers(t *testing.T) {
	wantTokens(t, "x#m", nameAt(0, "x"), symAt(1, "#"), nameAt(2, "m"), endAt(3))
	wantTokens(t, "_ _aZ9 let letx lEt let_", nameAt(0, "_"), nameAt(2, "_aZ9"), keyAt(7, "let"),
		nameAt(11, "letx"), nameAt(16, "lEt"), nameAt(20, "let_"), endAt(24))
	for _, key := range strings.Fields(allKeys) {
		wantTokens(t, key, keyAt(0, key), endAt(len(key)))
		wantTokens(t, "'"+key, tickAt(0, key), endAt(len(key)+1))
		wantTokens(t, key+"0", nameAt(0, key+"0"), endAt(len(key)+1))
	}
	wantTokens(t, "'a'_B1", tickAt(0, "a"), tickAt(2, "_B1"), endAt(6))
	long := strings.Repeat("a", api.MaxName)
	wantTokens(t, long+"'"+long, nameAt(0, long), tickAt(100, long), endAt(201))
	wantTokens(t, "0 007 12ab", intAt(0, 0), intAt(2, 7), intAt(6, 12), nameAt(8, "ab"), endAt(10))
	wantTokens(t, "9223372036854775807", intAt(0, math.MaxInt64), endAt(19))
	wantTokens(t, strings.Repeat("0", 500)+"9223372036854775807", intAt(0, math.MaxInt64), endAt(519))
	wantTokens(t, "-1", symAt(0, "-"), intAt(1, 1), endAt(2))
}

// P1.1: texts in quotes.
func TestLexTexts(t *testing.T) {
	wantTokens(t, `"a\nb"`, strAt(0, "a\nb"), endAt(6))
	wantTokens(t, `"" "\\\"\n\\n"x`, strAt(0, ""), strAt(3, "\\\"\n\\n"), nameAt(14, "x"), endAt(15))
	wantTokens(t, "\"\x00\n\r\xff\xc3é'(*\"", strAt(0, "\x00\n\r\xff\xc3é'(*"), endAt(12))
	inside := strings.Repeat("\n", api.MaxText-2)
	wantTokens(t, "\""+inside+"\"", strAt(0, inside), endAt(api.MaxText))
}

// P1.1: symbols, the longest first.
func TestLexSymbols(t *testing.T) {
	for _, s := range strings.Fields(allSymbols) {
		wantTokens(t, s, symAt(0, s), endAt(len(s)))
		wantTokens(t, s+" "+s, symAt(0, s), symAt(len(s)+1, s), endAt(2*len(s)+1))
	}
	wantTokens(t, "-->", symAt(0, "-"), symAt(1, "->"), endAt(3))
	wantTokens(t, "<->", symAt(0, "<-"), symAt(2, ">"), endAt(3))
	wantTokens(t, "::>>}", symAt(0, ":"), symAt(1, ":>"), symAt(3, ">}"), endAt(5))
	wantTokens(t, "{<<", symAt(0, "{<"), symAt(2, "<"), endAt(3))
	wantTokens(t, "....", symAt(0, ".."), symAt(2, ".."), endAt(4))
	wantTokens(t, "{<>}", symAt(0, "{<"), symAt(2, ">}"), endAt(4))
	wantTokens(t, "):=", symAt(0, ")"), symAt(1, ":"), symAt(2, "="), endAt(3))
}

// P1.1: the errors, and their places.
func TestLexFaults(t *testing.T) {
	for b := range 256 {
		s := string([]byte{byte(b)})
		if strings.Contains("\t\n\r _abcdefghijklmnopqrstuvwxyz0123456789();:=<>+-*/,#", s) {
			continue
		}
		wantFault(t, s, 0)
		wantFault(t, "x "+s, 2)
	}
	long := strings.Repeat("a", api.MaxName+1)
	faults := []struct {
		text string
		at   int
	}{
		{"x\n.", 2}, {"...", 2}, {"{ <", 0}, {"< }", 2}, {"x' ", 1}, {"aé", 1}, {"x Ab", 2},
		{"9223372036854775808", 0}, {"1 + 99999999999999999999", 4}, {"x " + strings.Repeat("9", 1000), 2},
		{long, 0}, {"(" + long + ")", 1}, {"1" + long, 1}, {"'" + long, 0}, {"x '" + long, 2},
		{"'", 0}, {"x '", 2}, {"' a", 0}, {"''a", 0}, {"'A", 0}, {"'1", 0},
		{"\"", 0}, {"x \"a", 2}, {"\"\\", 0}, {"\"\\\"", 0}, {"x \"\\t\"", 2}, {"\"\\\n\"", 0}, {"\"\\N\"", 0}, {"\"a\" \"", 4},
		{"(*", 0}, {"(*)", 0}, {"x(* *", 1}, {"(* *) (* * )", 6}, {"\n(*\"*\")", 1},
		{"? \"", 0}, {"1 ? 'A", 2},
	}
	for _, f := range faults {
		wantFault(t, f.text, f.at)
	}
}

// P1.1: the limit comes ahead of all else.
func TestLexTooLong(t *testing.T) {
	wantTokens(t, strings.Repeat(" ", api.MaxText), endAt(api.MaxText))
	wantFault(t, "?"+strings.Repeat(" ", api.MaxText-1), 0)
	for _, first := range []string{" ", "x", "?", "\"", "(*"} {
		got, at, e := lex.Lex(first + strings.Repeat(" ", api.MaxText))
		if len(got) != 0 || at != 0 || e != api.ErrLong {
			t.Errorf("%q and blanks: %v, %d, %d", first, got, at, e)
		}
	}
}

// Rule 4: an answer is new memory, its spare room too.
func TestLexAnswersAreNew(t *testing.T) {
	first, _, _ := lex.Lex("a -> b")
	first = first[:cap(first)]
	for i := range first {
		first[i] = strAt(7, "spoilt")
	}
	wantTokens(t, "a -> b", nameAt(0, "a"), symAt(2, "->"), nameAt(5, "b"), endAt(6))
}

// P1.2
func TestIsNameIsKey(t *testing.T) {
	long := strings.Repeat("_", api.MaxName)
	for _, s := range []string{"x", "_", "_1", "aB_9", "lets", "l", "self", "int", "et", long} {
		if !lex.IsName(s) || lex.IsKey(s) {
			t.Errorf("%.80q is a name", s)
		}
	}
	for _, s := range strings.Fields(allKeys) {
		if lex.IsName(s) || !lex.IsKey(s) {
			t.Errorf("%q is a key", s)
		}
	}
	for _, s := range []string{"", " ", "1", "1a", "A", "Let", "LET", "a b", " a", "a ", "a-", "a'", "'a", "é", "aé", "a\x00", "->", allKeys, long + "_", strings.Repeat("a", 1<<20)} {
		if lex.IsName(s) || lex.IsKey(s) {
			t.Errorf("%.80q is neither", s)
		}
	}
}

// P1.2
func TestPut(t *testing.T) {
	word := strings.Repeat("z", api.MaxName)
	puts := []struct {
		t    api.Token
		want string
	}{
		{nameAt(0, "x"), "x"}, {nameAt(-7, word), word}, {keyAt(math.MaxInt, "let"), "let"},
		{intAt(3, 0), "0"}, {intAt(0, math.MaxInt64), "9223372036854775807"},
		{tickAt(0, "a"), "'a"}, {tickAt(math.MinInt, "let"), "'let"}, {tickAt(0, word), "'" + word},
		{strAt(0, ""), `""`}, {strAt(0, "a\nb"), `"a\nb"`}, {strAt(0, "\\\"\n\t\r"), "\"\\\\\\\"\\n\t\r\""},
		{strAt(0, "\x00\xff\xc3é'(*"), "\"\x00\xff\xc3é'(*\""},
		{strAt(0, strings.Repeat("a", api.MaxText-2)), "\"" + strings.Repeat("a", api.MaxText-2) + "\""},
		{strAt(0, strings.Repeat("\n", api.MaxText/2-1)), "\"" + strings.Repeat("\\n", api.MaxText/2-1) + "\""},
	}
	for _, s := range strings.Fields(allKeys) {
		puts = append(puts, struct {
			t    api.Token
			want string
		}{keyAt(0, s), s})
	}
	for _, s := range strings.Fields(allSymbols) {
		puts = append(puts, struct {
			t    api.Token
			want string
		}{symAt(0, s), s})
	}
	for _, p := range puts {
		if got, e := lex.Put(p.t); got != p.want || e != api.OK {
			t.Errorf("Put(%.80v) = %.80q, %d", p.t, got, e)
		}
	}
}

// P1.2: what Lex doesn't tell, or of no text that Put could tell.
func TestPutRefuses(t *testing.T) {
	long := strings.Repeat("a", api.MaxName+1)
	refused := []api.Token{
		{}, endAt(3), {Kind: api.End, S: "x"}, {Kind: -1, S: "x"}, {Kind: 7, S: "x"}, {Kind: math.MaxInt, S: "x"}, {Kind: math.MinInt},
		nameAt(0, ""), nameAt(0, "let"), nameAt(0, "A"), nameAt(0, "a b"), nameAt(0, "'a"), nameAt(0, long), {Kind: api.Name, S: "x", N: 1},
		keyAt(0, ""), keyAt(0, "x"), keyAt(0, "Let"), keyAt(0, "and as"), {Kind: api.Key, S: "let", N: -1},
		intAt(0, -1), intAt(0, math.MinInt64), {Kind: api.Int, N: 5, S: "5"},
		tickAt(0, ""), tickAt(0, "A"), tickAt(0, "1"), tickAt(0, "'a"), tickAt(0, "a b"), tickAt(0, long), {Kind: api.Tick, S: "a", N: 1},
		symAt(0, ""), symAt(0, "- "), symAt(0, "--"), symAt(0, "."), symAt(0, "{"), symAt(0, "}"), symAt(0, "(*"), symAt(0, "x"), symAt(0, "-> <-"), {Kind: api.Sym, S: "->", N: 1},
		{Kind: api.Str, S: "x", N: 1},
		strAt(0, strings.Repeat("a", api.MaxText-1)), strAt(0, strings.Repeat("a", api.MaxText-3)+"\""),
		strAt(0, strings.Repeat("\\", api.MaxText/2)), strAt(0, strings.Repeat("\n", api.MaxText/2)), strAt(0, strings.Repeat("a", 1<<20)),
	}
	for _, x := range refused {
		if got, e := lex.Put(x); got != "" || e != api.ErrArg {
			t.Errorf("Put(%.80v) = %.80q, %d", x, got, e)
		}
	}
}
