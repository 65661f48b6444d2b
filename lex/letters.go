package lex

import "trefoil/api"

func isBlank(b byte) bool {
	return b == 9 || b == 10 || b == 13 || b == 32
}

func isDigit(b byte) bool {
	return '0' <= b && b <= '9'
}

func isWordStart(b byte) bool {
	return 'a' <= b && b <= 'z' || b == '_'
}

func isWordPart(b byte) bool {
	return isWordStart(b) || 'A' <= b && b <= 'Z' || isDigit(b)
}

// wordSize is how many bytes the word has that s begins with: 0, if there is none.
func wordSize(s string) int {
	if s == "" || !isWordStart(s[0]) {
		return 0
	}
	size := 1
	for size < len(s) && isWordPart(s[size]) {
		size++
	}
	return size
}

// isWord says whether all of s is a word that a token may have.
func isWord(s string) bool {
	return s != "" && len(s) <= api.MaxName && wordSize(s) == len(s)
}
