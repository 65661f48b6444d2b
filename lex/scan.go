package lex

import (
	"errors"
	"strconv"
	"strings"

	"trefoil/api"
)

var (
	errByte = errors.New("a byte that begins no token")
	errWord = errors.New("a word that is too long")
	errTick = errors.New("a ' without a word")
	errText = errors.New("a text without its end, or with a stray byte 92")
	errNote = errors.New("a note without its end")
)

// A fault is what is wrong, with its place in the text.
type fault struct {
	at  int
	why error
}

func (f *fault) Error() string { return f.why.Error() + " at " + strconv.Itoa(f.at) }
func (f *fault) Unwrap() error { return f.why }

// symbols has those of two bytes first, so that the first one that fits is the longest.
var symbols = [...]string{
	"->", "<-", ":>", "..", "{<", ">}",
	"(", ")", ";", ":", "=", "<", ">", "+", "-", "*", "/", ",", "#",
}

// scan is all tokens of a text, or a fault.
func scan(text string) ([]api.Token, error) {
	var tokens []api.Token
	at := 0
	for at < len(text) {
		t, size, err := next(text[at:])
		if err != nil {
			return nil, &fault{at, err}
		}
		if t.Kind != api.End {
			t.At = at
			tokens = append(tokens, t)
		}
		at += size
	}
	return append(tokens, api.Token{Kind: api.End, At: at}), nil
}

// next is the token that rest begins with, and its size; an End stands for what is passed over.
func next(rest string) (api.Token, int, error) {
	switch b := rest[0]; {
	case isBlank(b):
		return api.Token{}, 1, nil
	case isWordStart(b):
		return word(rest)
	case isDigit(b):
		return number(rest)
	case b == '\'':
		return tick(rest)
	case b == '"':
		return quoted(rest)
	case b == '(':
		if strings.HasPrefix(rest, "(*") {
			return note(rest)
		}
		fallthrough
	default:
		return symbol(rest)
	}
}

func word(rest string) (api.Token, int, error) {
	size := wordSize(rest)
	if size > api.MaxName {
		return api.Token{}, 0, errWord
	}
	kind := api.Name
	if IsKey(rest[:size]) {
		kind = api.Key
	}
	return api.Token{Kind: kind, S: strings.Clone(rest[:size])}, size, nil
}

func number(rest string) (api.Token, int, error) {
	size := 1
	for size < len(rest) && isDigit(rest[size]) {
		size++
	}
	n, err := strconv.ParseInt(rest[:size], 10, 64)
	if err != nil {
		return api.Token{}, 0, err
	}
	return api.Token{Kind: api.Int, N: n}, size, nil
}

func tick(rest string) (api.Token, int, error) {
	size := wordSize(rest[1:])
	if size == 0 {
		return api.Token{}, 0, errTick
	}
	if size > api.MaxName {
		return api.Token{}, 0, errWord
	}
	return api.Token{Kind: api.Tick, S: strings.Clone(rest[1 : 1+size])}, 1 + size, nil
}

func quoted(rest string) (api.Token, int, error) {
	var told strings.Builder
	for i := 1; i < len(rest); i++ {
		b := rest[i]
		if b == '"' {
			return api.Token{Kind: api.Str, S: told.String()}, i + 1, nil
		}
		if b == '\\' {
			i++
			c, ok := escaped(rest[i:])
			if !ok {
				break
			}
			b = c
		}
		told.WriteByte(b)
	}
	return api.Token{}, 0, errText
}

// escaped is what the first byte of rest tells behind a byte 92.
func escaped(rest string) (byte, bool) {
	if rest == "" {
		return 0, false
	}
	switch rest[0] {
	case '\\', '"':
		return rest[0], true
	case 'n':
		return '\n', true
	}
	return 0, false
}

func note(rest string) (api.Token, int, error) {
	end := strings.Index(rest[2:], "*)")
	if end < 0 {
		return api.Token{}, 0, errNote
	}
	return api.Token{}, 2 + end + 2, nil
}

func symbol(rest string) (api.Token, int, error) {
	for _, s := range symbols {
		if strings.HasPrefix(rest, s) {
			return api.Token{Kind: api.Sym, S: s}, len(s), nil
		}
	}
	return api.Token{}, 0, errByte
}
