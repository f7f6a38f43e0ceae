package parser

import (
	"gangsaw/api"
	"gangsaw/lexer"
)

// Check returns OK if some source has this tree, whatever its numbers and columns are.
func Check(lines []api.Line) api.Errno {
	if !possible(lines) {
		return api.ErrInvalid
	}
	if !fits(lines, api.MaxIndent+1) {
		return api.ErrTooMany
	}
	return api.OK
}

// Measure returns the totals of a tree.
func Measure(lines []api.Line) Total {
	var sum Total
	for _, l := range lines {
		below := Measure(l.Kids)
		sum.Lines += 1 + below.Lines
		sum.Tokens += len(l.Tokens) + below.Tokens
		sum.Depth = max(sum.Depth, 1+below.Depth)
	}
	return sum
}

// Same reports whether two trees are equal, apart from numbers of lines and columns.
func Same(a, b []api.Line) bool {
	if len(a) != len(b) {
		return false
	}
	for i, l := range a {
		if l.Heading != b[i].Heading || !sameTokens(l.Tokens, b[i].Tokens) || !Same(l.Kids, b[i].Kids) {
			return false
		}
	}
	return true
}

func sameTokens(a, b []api.Token) bool {
	if len(a) != len(b) {
		return false
	}
	for i, t := range a {
		t.At = b[i].At
		if t != b[i] {
			return false
		}
	}
	return true
}

// possible reports whether all lines of a tree could be lines of a source, if they were not too long or too deep.
func possible(lines []api.Line) bool {
	for _, l := range lines {
		if len(l.Tokens) == 0 || !l.Heading && (len(l.Kids) > 0 || endsWithColon(l)) || !allValid(l.Tokens) || !possible(l.Kids) {
			return false
		}
	}
	return true
}

func allValid(tokens []api.Token) bool {
	for _, t := range tokens {
		if !lexer.Valid(t) {
			return false
		}
	}
	return true
}

func endsWithColon(l api.Line) bool {
	last := l.Tokens[len(l.Tokens)-1]
	return last.Kind == api.TokSign && last.Text == ":"
}

// fits reports whether lines have no more tokens than they may have, and no more than so many lines lie within each other.
func fits(lines []api.Line, levels int) bool {
	for _, l := range lines {
		most := lexer.MaxTokens
		if l.Heading {
			// The colon is one of them.
			most--
		}
		if levels == 0 || len(l.Tokens) > most || !fits(l.Kids, levels-1) {
			return false
		}
	}
	return true
}
