package lex_test

import (
	"math/rand"
	"regexp"
	"slices"
	"strconv"
	"strings"
	"testing"

	"trefoil/api"
	"trefoil/lex"
)

// joined is what is put of each token, and where each stands in that.
func joined(t *testing.T, tokens []api.Token, blanks string) (string, []api.Token) {
	t.Helper()
	text := ""
	var want []api.Token
	for i, x := range tokens {
		s, e := lex.Put(x)
		if e != api.OK {
			t.Fatalf("Put(%v): %d", x, e)
		}
		x.At = len(text)
		want = append(want, x)
		text += s + blanks[i%len(blanks):][:1]
	}
	return text, append(want, endAt(len(text)))
}

// P1.3: each pair of tokens, in either order.
func TestPutIsTold(t *testing.T) {
	word := strings.Repeat("w", api.MaxName)
	tokens := []api.Token{
		nameAt(9, "x"), nameAt(0, "_A1"), nameAt(0, word), nameAt(0, "leta"), intAt(1, 0), intAt(0, 1<<63-1),
		tickAt(0, "a"), tickAt(0, "in"), tickAt(0, word), strAt(-1, ""), strAt(0, "\\"), strAt(0, "\""), strAt(0, "\n"), strAt(0, "\\n\x00\xffé'*)(*"),
	}
	for _, s := range strings.Fields(allKeys) {
		tokens = append(tokens, keyAt(0, s))
	}
	for _, s := range strings.Fields(allSymbols) {
		tokens = append(tokens, symAt(0, s))
	}
	for _, blanks := range []string{" ", "\t", "\n", "\r", " \t\n\r"} {
		text, want := joined(t, tokens, blanks)
		wantTokens(t, text, want...)
		for _, x := range tokens {
			for _, y := range tokens {
				text, want := joined(t, []api.Token{x, y}, blanks)
				wantTokens(t, text, want...)
			}
		}
	}
	longest := strAt(0, strings.Repeat("a\n\"", (api.MaxText-3)/5))
	text, want := joined(t, []api.Token{longest}, " ")
	wantTokens(t, text, want...)
}

var (
	passed  = regexp.MustCompile(`^(?:[\t\n\r ]+|\(\*(?s:.*?)\*\))`)
	aWord   = regexp.MustCompile(`^[a-z_][A-Za-z0-9_]*`)
	aNumber = regexp.MustCompile(`^[0-9]+`)
	aTick   = regexp.MustCompile(`^'[a-z_][A-Za-z0-9_]*`)
	aText   = regexp.MustCompile(`^"(?s:[^"\\]|\\["\\n])*"`)
	aSymbol = regexp.MustCompile(`^(?:->|<-|:>|\.\.|\{<|>\}|[();:=<>+\-*/,#])`)
	aKey    = regexp.MustCompile(`^(?:` + strings.ReplaceAll(allKeys, " ", "|") + `)$`)
)

// plain tells tokens in another way, by patterns.
func plain(text string) ([]api.Token, int, api.Errno) {
	var tokens []api.Token
	at := 0
	for at < len(text) {
		rest := text[at:]
		size := len(passed.FindString(rest))
		if size == 0 {
			t := plainToken(rest, &size)
			if size == 0 {
				return nil, at, api.ErrLex
			}
			t.At = at
			tokens = append(tokens, t)
		}
		at += size
	}
	return append(tokens, endAt(at)), 0, api.OK
}

func plainToken(rest string, size *int) api.Token {
	if s := aWord.FindString(rest); s != "" && len(s) <= 100 {
		*size = len(s)
		if aKey.MatchString(s) {
			return keyAt(0, s)
		}
		return nameAt(0, s)
	}
	if s := aNumber.FindString(rest); s != "" {
		if n, err := strconv.ParseUint(s, 10, 63); err == nil {
			*size = len(s)
			return intAt(0, int64(n))
		}
		return api.Token{}
	}
	if s := aTick.FindString(rest); s != "" && len(s) <= 101 {
		*size = len(s)
		return tickAt(0, s[1:])
	}
	if s := aText.FindString(rest); s != "" {
		*size = len(s)
		return strAt(0, strings.NewReplacer(`\\`, `\`, `\"`, `"`, `\n`, "\n").Replace(s[1:len(s)-1]))
	}
	if s := aSymbol.FindString(rest); s != "" && !strings.HasPrefix(rest, "(*") {
		*size = len(s)
		return symAt(0, s)
	}
	return api.Token{}
}

// agrees holds Lex against plain, and P1.3 of what it tells.
func agrees(t *testing.T, text string) {
	t.Helper()
	want, place, fault := plain(text)
	got, at, e := lex.Lex(text)
	if !slices.Equal(got, want) || at != place || e != fault {
		t.Fatalf("Lex(%q) = %v, %d, %d, want %v, %d, %d", text, got, at, e, want, place, fault)
	}
	if e == api.OK {
		told, again := joined(t, got[:len(got)-1], "\n ")
		wantTokens(t, told, again...)
	}
}

// P1.1, P1.3: every text of a few bytes of these.
func TestLexShortTexts(t *testing.T) {
	const bytes = "aZ0'\"\\n (*)<->:.{}\xff"
	texts := []string{""}
	for range 4 {
		var longer []string
		for _, s := range texts {
			for i := range len(bytes) {
				longer = append(longer, s+bytes[i:i+1])
				agrees(t, longer[len(longer)-1])
			}
		}
		texts = longer
	}
}

// P1.1, P1.3: longer ones, of pieces.
func TestLexLongTexts(t *testing.T) {
	pieces := []string{
		"let", "x", "in", "'a", "' ", "_Z9", "1", "9223372036854775807", "9223372036854775808", "00", "\"", "\\", "\\n", "\\\"", "\"a\"", "\"\\n\"",
		"(*", "*)", "(", "*", ")", "->", "<-", "-", "<", ">", ":>", ":", "..", "..", "{<", ">}", "=", "#", ";", ",", "/", "+", " ", " ", " ", "\n", "\t", "\r",
		strings.Repeat("k", 99), strings.Repeat("k", 100), "é",
	}
	chance := rand.New(rand.NewSource(1))
	for range 20000 {
		var b strings.Builder
		for range chance.Intn(20) {
			b.WriteString(pieces[chance.Intn(len(pieces))])
		}
		agrees(t, b.String())
	}
}

// P1: Put ends, and doesn't panic, of any kind and text; what it tells is one token.
func TestPutOfAny(t *testing.T) {
	const bytes = "aZ0'\"\\n (*<->.\xff"
	texts := []string{"", "let", "virtual", "->", "<-", ":>", "..", "{<", ">}", "(*", "*)", strings.Repeat("a", 101)}
	for i := range len(bytes) {
		for j := range len(bytes) {
			texts = append(texts, bytes[i:i+1], bytes[i:i+1]+bytes[j:j+1])
		}
	}
	for _, s := range texts {
		for kind := -1; kind <= 8; kind++ {
			for n := int64(-1); n <= 1; n++ {
				x := api.Token{Kind: kind, At: kind, N: n, S: s}
				if told, e := lex.Put(x); e == api.OK {
					x.At = 0
					wantTokens(t, told, x, endAt(len(told)))
				} else if told != "" || e != api.ErrArg {
					t.Errorf("Put(%v) = %q, %d", x, told, e)
				}
			}
		}
	}
}
