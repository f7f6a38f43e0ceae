package lexer

import (
	"strconv"
	"strings"

	"gangsaw/api"
)

// first returns the token with which a text begins, and the length of its spelling. The text is not empty.
func first(text string) (api.Token, int, api.Errno) {
	switch c := text[0]; {
	case isLetter(c):
		return word(text)
	case isDigit(c) || c == '-':
		return number(text)
	case c == '"':
		return quoted(text)
	case isSign(c):
		return api.Token{Kind: api.TokSign, Text: text[:1]}, 1, api.OK
	}
	return api.Token{}, 0, api.ErrSyntax
}

func word(text string) (api.Token, int, api.Errno) {
	length := run(text, isOfWord)
	if length > api.MaxLabel {
		return api.Token{}, 0, api.ErrName
	}
	return api.Token{Kind: api.TokWord, Text: text[:length]}, length, api.OK
}

func number(text string) (api.Token, int, api.Errno) {
	digits := strings.TrimPrefix(text, "-")
	digits = digits[:run(digits, isDigit)]
	minus := text[0] == '-'
	length := len(digits)
	if minus {
		length++
	}
	// A single zero is the only number that begins with one.
	superfluous := strings.HasPrefix(digits, "0") && (minus || digits != "0")
	if digits == "" || superfluous || length < len(text) && isOfWord(text[length]) {
		return api.Token{}, 0, api.ErrSyntax
	}
	n, err := strconv.ParseInt(text[:length], 10, 64)
	if err != nil || !inRange(n) {
		return api.Token{}, 0, api.ErrRange
	}
	return api.Token{Kind: api.TokNumber, N: n}, length, api.OK
}

func quoted(text string) (api.Token, int, api.Errno) {
	inside, _, closed := strings.Cut(text[1:], `"`)
	if !closed {
		return api.Token{}, 0, api.ErrSyntax
	}
	if !Label(inside) {
		return api.Token{}, 0, api.ErrName
	}
	return api.Token{Kind: api.TokText, Text: inside}, len(inside) + 2, api.OK
}

func isWord(s string) bool {
	return len(s) <= api.MaxLabel && s != "" && isLetter(s[0]) && run(s, isOfWord) == len(s)
}

func inRange(n int64) bool {
	return -MaxNumber <= n && n <= MaxNumber
}

// run returns how many bytes of a kind a text begins with.
func run(text string, of func(byte) bool) int {
	for i := range len(text) {
		if !of(text[i]) {
			return i
		}
	}
	return len(text)
}

func isSmall(c byte) bool {
	return 'a' <= c && c <= 'z'
}

func isLetter(c byte) bool {
	return isSmall(c) || 'A' <= c && c <= 'Z'
}

func isDigit(c byte) bool {
	return '0' <= c && c <= '9'
}

func isOfWord(c byte) bool {
	return isLetter(c) || isDigit(c) || c == '_'
}

func isOfName(c byte) bool {
	return isSmall(c) || isDigit(c) || c == '_'
}

func isOfLabel(c byte) bool {
	return ' ' <= c && c <= '~' && c != '"'
}

func isSign(c byte) bool {
	return strings.IndexByte("(),=:<>+/", c) >= 0
}
