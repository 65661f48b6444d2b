// Package lex is layer 1: see shared/doc/01-lex.md.
package lex

import (
	"errors"

	"trefoil/api"
)

// Lex is a text's tokens; of an error where it is.
func Lex(text string) ([]api.Token, int, api.Errno) {
	if len(text) > api.MaxText {
		return nil, 0, api.ErrLong
	}
	tokens, err := scan(text)
	var f *fault
	if errors.As(err, &f) {
		return nil, f.at, api.ErrLex
	}
	return tokens, 0, api.OK
}

// IsName says whether a text is a name, IsKey whether it is a word with a meaning of its own.
func IsName(s string) bool { return isWord(s) && !IsKey(s) }
func IsKey(s string) bool {
	switch s {
	case "and", "as", "class", "else", "end", "false", "fun", "if", "in", "inherit",
		"let", "method", "new", "object", "rec", "then", "true", "val", "virtual":
		return true
	}
	return false
}

// Put is a token as a text.
func Put(t api.Token) (string, api.Errno) {
	if !mayBe(t) {
		return "", api.ErrArg
	}
	return put(t), api.OK
}
