package printer_test

import (
	"math/rand"
	"slices"
	"strings"
	"testing"

	"gangsaw/api"
	"gangsaw/lexer"
	"gangsaw/parser"
	"gangsaw/printer"
)

// Bytes that no token has stand for the blanks and the signs around which blanks are left out.
var (
	marks   = map[string]string{"(": "\x02", ")": "\x03", ",": "\x04"}
	leave   = strings.NewReplacer("\x02\x01", "\x02", "\x01\x03", "\x03", "\x01\x04", "\x04")
	restore = strings.NewReplacer("\x01", " ", "\x02", "(", "\x03", ")", "\x04", ",")
)

// slowLine writes all blanks first and then leaves some of them out.
func slowLine(tokens []api.Token) string {
	var list []string
	for _, t := range tokens {
		s, _ := lexer.Spell(t)
		if mark, ok := marks[t.Text]; ok && t.Kind == api.TokSign {
			s = mark
		}
		list = append(list, s)
	}
	s := strings.Join(list, "\x01")
	for leave.Replace(s) != s {
		s = leave.Replace(s)
	}
	return restore.Replace(s)
}

// slowNumber returns a tree with its numbers and columns, from the line with a number on, and its rows.
func slowNumber(lines []api.Line, depth, at int) ([]api.Line, []string) {
	numbered, rows := []api.Line{}, []string{}
	indent := strings.Repeat(" ", 2*depth)
	for _, l := range lines {
		row := indent + slowLine(l.Tokens)
		if l.Heading {
			row += ":"
		}
		n := api.Line{Heading: l.Heading, At: at + len(rows)}
		for i, t := range l.Tokens {
			s, _ := lexer.Spell(t)
			t.At = 1 + len(indent) + len(slowLine(l.Tokens[:i+1])) - len(s)
			n.Tokens = append(n.Tokens, t)
		}
		rows = append(rows, row)
		kids, more := slowNumber(l.Kids, depth+1, at+len(rows))
		n.Kids, rows = kids, append(rows, more...)
		numbered = append(numbered, n)
	}
	return numbered, rows
}

// slowCheck returns the error of a tree that has these rows.
func slowCheck(lines []api.Line, rows []string) api.Errno {
	if e := parser.Check(lines); e != api.OK {
		return e
	}
	if len(joined(rows...)) > 65536 || slices.ContainsFunc(rows, func(row string) bool { return len(row) > 1000 }) {
		return api.ErrTooMany
	}
	return api.OK
}

// compare compares a tree with the slow versions.
func compare(t *testing.T, lines []api.Line) api.Errno {
	t.Helper()
	numbered, rows := slowNumber(lines, 0, 1)
	want := slowCheck(lines, rows)
	if want != api.OK {
		wantRefused(t, lines, want)
		return want
	}
	wantSource(t, lines, joined(rows...))
	if list, e := printer.Number(lines); e != api.OK || show(list) != show(numbered) {
		t.Errorf("Number of %.300s: %.300s, %d, not %.300s", show(lines), show(list), e, show(numbered))
	}
	return api.OK
}

var someTokens = []api.Token{word("a"), number(-5), text(","), text(") ("), sign("("), sign(")"), sign(","), sign(":"), sign("=")}

// TestAllShortLines has each line of at most four of some tokens, as a note and as a heading.
func TestAllShortLines(t *testing.T) {
	var extend func(tokens []api.Token)
	extend = func(tokens []api.Token) {
		for _, token := range someTokens {
			longer := append(slices.Clone(tokens), token)
			compare(t, []api.Line{note(longer...)})
			compare(t, []api.Line{titled(note(longer...), note(longer...))})
			if len(longer) < 4 {
				extend(longer)
			}
		}
	}
	extend(nil)
}

// someTree makes a tree that can be printed but for a slip here and there.
func someTree(random *rand.Rand, levels int) []api.Line {
	var lines []api.Line
	for range random.Intn(5) {
		l := note(word("a"))
		for range random.Intn(5) {
			l.Tokens = append(l.Tokens, someTokens[random.Intn(len(someTokens))])
		}
		l.Heading = l.Tokens[len(l.Tokens)-1] == sign(":") || random.Intn(3) == 0
		if levels > 1 && random.Intn(2) == 0 {
			l.Heading, l.Kids = true, someTree(random, levels-1)
		}
		l.At = random.Intn(9) - 4
		l.Tokens[0].At = random.Intn(9) - 4
		switch random.Intn(1000) {
		case 0:
			l.Tokens = nil
		case 1:
			l.Tokens[0].N = 5
		case 2, 3, 4, 5:
			l.Tokens = slices.Repeat([]api.Token{word(strings.Repeat("c", 30)), sign(",")}, 30+random.Intn(3))
		case 6, 7:
			l.Tokens = slices.Repeat([]api.Token{word("c")}, 63+random.Intn(3))
		}
		lines = append(lines, l)
	}
	return lines
}

func TestRandomTrees(t *testing.T) {
	random := rand.New(rand.NewSource(111))
	seen := map[api.Errno]int{}
	for range 10000 {
		seen[compare(t, someTree(random, 1+random.Intn(9)))]++
	}
	if seen[api.OK] < 5000 || seen[api.ErrInvalid] < 100 || seen[api.ErrTooMany] < 200 {
		t.Errorf("trees by errors: %v", seen)
	}
}

// untidy adds blanks, comments and empty lines to a canonical source.
func untidy(random *rand.Rand, rows []string) string {
	var b strings.Builder
	for _, row := range rows {
		for random.Intn(4) == 0 {
			b.WriteString([]string{"", "   ", "# x (", "     #"}[random.Intn(4)] + "\n")
		}
		bare := strings.TrimLeft(row, " ")
		b.WriteString(row[:len(row)-len(bare)])
		quoted := false
		for i := range len(bare) {
			quoted = quoted != (bare[i] == '"')
			aside := !quoted && strings.IndexByte("(),:=", bare[i]) >= 0
			if aside && i > 0 && random.Intn(2) == 0 {
				b.WriteString("  ")
			}
			b.WriteByte(bare[i])
			if (aside || !quoted && bare[i] == ' ') && random.Intn(2) == 0 {
				b.WriteString("  ")
			}
		}
		b.WriteString([]string{"", "  ", "# c", " #"}[random.Intn(4)] + "\n")
	}
	return b.String()
}

// TestRowsOfUntidySources adds what does not count to canonical sources.
func TestRowsOfUntidySources(t *testing.T) {
	random := rand.New(rand.NewSource(112))
	count := 0
	for range 5000 {
		lines := someTree(random, 1+random.Intn(7))
		if printer.Check(lines) != api.OK {
			continue
		}
		_, rows := slowNumber(lines, 0, 1)
		s := untidy(random, rows)
		if _, f := parser.Parse(s); f != (api.Fault{}) {
			continue
		}
		count++
		if got, e := printer.Rows(s); e != api.OK || !slices.Equal(got, rows) {
			t.Errorf("Rows of %q: %q, %d, not %q", s, got, e, rows)
		}
	}
	if count < 2000 {
		t.Errorf("only %d sources", count)
	}
}
