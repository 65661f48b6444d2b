package lex

import (
	"strconv"
	"strings"

	"trefoil/api"
)

// mayBe says whether Lex may tell t, of a text that is as Put tells it.
func mayBe(t api.Token) bool {
	if t.Kind == api.Int {
		return t.N >= 0 && t.S == ""
	}
	return t.N == 0 && mayHave(t.Kind, t.S)
}

// mayHave says whether a token of a kind, other than an Int, may have the text s.
func mayHave(kind int, s string) bool {
	switch kind {
	case api.Name:
		return IsName(s)
	case api.Key:
		return IsKey(s)
	case api.Str:
		return quotedSize(s) <= api.MaxText
	case api.Tick:
		return isWord(s)
	case api.Sym:
		return isSymbol(s)
	}
	return false
}

func isSymbol(s string) bool {
	for _, x := range symbols {
		if x == s {
			return true
		}
	}
	return false
}

func put(t api.Token) string {
	switch t.Kind {
	case api.Int:
		return strconv.FormatInt(t.N, 10)
	case api.Str:
		return quote(t.S)
	case api.Tick:
		return "'" + t.S
	}
	return strings.Clone(t.S)
}

// quotedSize is how long quote(s) is, without making it.
func quotedSize(s string) int {
	return len(s) + 2 + strings.Count(s, "\\") + strings.Count(s, "\"") + strings.Count(s, "\n")
}

func quote(s string) string {
	var b strings.Builder
	b.WriteByte('"')
	for i := range len(s) {
		switch c := s[i]; c {
		case '\n':
			b.WriteString("\\n")
		case '\\', '"':
			b.WriteByte('\\')
			fallthrough
		default:
			b.WriteByte(c)
		}
	}
	b.WriteByte('"')
	return b.String()
}
