package parser_test

import (
	"fmt"
	"math"
	"math/rand"
	"slices"
	"strings"
	"testing"

	"gangsaw/api"
	"gangsaw/lexer"
	"gangsaw/parser"
)

// deep is a tree of headings within each other.
func deep(levels int) []api.Line {
	var lines []api.Line
	for range levels {
		lines = []api.Line{head("h", lines...)}
	}
	return lines
}

// long is a line with so many equal tokens.
func long(n int, t api.Token) api.Line {
	return note(slices.Repeat([]api.Token{t}, n)...)
}

// titled makes a heading of a line.
func titled(l api.Line, kids ...api.Line) api.Line {
	l.Heading, l.Kids = true, kids
	return l
}

func goodTrees() [][]api.Line {
	trees := [][]api.Line{
		nil, {}, {note(word("a"))}, {head("a")}, {head("a", note(number(5)), head("b"), note(text("x")))}, {note(sign("("), sign(")"))}, {note(sign(":"), word("a"))}, {note(word("a"), text(":"))}, {note(text(":"))}, {titled(note(sign(":")))}, {titled(note(word("a"), sign(":")), note(sign(":"), sign("=")))},
		{note(number(lexer.MaxNumber), number(-lexer.MaxNumber), number(0))}, {note(word(strings.Repeat("w", 40)), text(strings.Repeat("~", 40)))}, {note(api.Token{Kind: api.TokWord, Text: "a", At: -5})}, {{Tokens: []api.Token{word("a")}, At: math.MinInt}, {Tokens: []api.Token{word("a")}, At: 1, Kids: []api.Line{}}},
		{long(64, word("a"))}, {long(64, sign("("))}, {long(64, text("x y"))}, {titled(long(63, word("a")))}, {titled(long(63, sign(":")))}, {head("a", long(64, number(-1)), titled(long(63, number(-1))))}, slices.Repeat([]api.Line{note(word("a"))}, 100000), {head("a", slices.Repeat([]api.Line{note(word("a"))}, 70000)...)},
		// Its line would have more than lexer.MaxLine bytes, which Check does not ask.
		{long(64, word(strings.Repeat("w", 40)))},
	}
	for levels := 1; levels <= api.MaxIndent+1; levels++ {
		trees = append(trees, deep(levels), append(deep(levels), deep(api.MaxIndent+1)...), []api.Line{note(word("x")), deep(levels)[0], note(word("x"))})
	}
	return trees
}

// badLines have something that no line of a source has.
func badLines() []api.Line {
	lines := []api.Line{
		{}, {At: 5}, {Heading: true}, {Heading: true, Kids: []api.Line{head("a")}}, {Kids: []api.Line{head("a")}}, {Tokens: []api.Token{}},
		note(sign(":")), note(word("a"), sign(":")), note(sign(":"), sign(":")), {Tokens: []api.Token{word("a")}, Kids: []api.Line{note(word("b"))}}, {Tokens: []api.Token{word("a")}, Kids: []api.Line{head("b")}},
	}
	for _, t := range []api.Token{{}, word(""), word("1"), word("_a"), word("a b"), word(strings.Repeat("w", 41)), number(lexer.MaxNumber + 1), number(-lexer.MaxNumber - 1), number(math.MinInt64), text(""), text(" a"), text(`"`), text(strings.Repeat("~", 41)), sign(""), sign("#"), sign("::"), sign("a"), {Kind: 5, Text: "a"}, {Kind: -1}, {Kind: api.TokWord, Text: "a", N: 1}, {Kind: api.TokNumber, Text: "1", N: 1}} {
		for _, tokens := range [][]api.Token{{t}, {t, word("a")}, {word("a"), t}, {word("a"), t, number(1)}} {
			lines = append(lines, note(tokens...), titled(note(tokens...)), titled(note(tokens...), head("a")))
		}
	}
	return append(lines, long(65, sign(":")), titled(long(65, word("?"))))
}

// hugeTrees are possible, but too long or too deep.
func hugeTrees() [][]api.Line {
	return [][]api.Line{
		{long(65, word("a"))}, {long(65, sign("("))}, {long(10000, number(7))}, {titled(long(64, word("a")))}, {titled(long(64, sign(":")))}, {titled(long(65, word("a")))}, {head("a", long(65, word("a")))}, {note(word("a")), titled(long(64, text("x")), note(word("b")))},
		deep(api.MaxIndent + 2), deep(api.MaxIndent + 3), deep(100), deep(60000), {note(word("x")), deep(8)[0]}, {head("a", note(word("x")), deep(7)[0])}, {head("a", deep(6)[0], deep(7)[0], note(word("x")))},
	}
}

func TestCheck(t *testing.T) {
	for _, lines := range goodTrees() {
		if e := parser.Check(lines); e != api.OK {
			t.Errorf("Check of %.300s: %d", show(lines), e)
		}
	}
	for _, lines := range hugeTrees() {
		if e := parser.Check(lines); e != api.ErrTooMany {
			t.Errorf("Check of %.300s: %d", show(lines[:1][0].Kids), e)
		}
	}
	for _, bad := range badLines() {
		for _, lines := range [][]api.Line{{bad}, {note(word("a")), bad}, {bad, note(word("a"))}, {head("a", bad)}, {head("a", note(word("b")), bad, note(word("b")))}, {head("a"), head("b", head("c", bad))}, {long(65, word("a")), bad}, {bad, long(65, word("a"))}, {deep(20)[0], bad}, {head("a", head("b", head("c", head("d", head("e", head("f", head("g", head("h", bad))))))))}, {titled(long(64, word("a")), bad)}} {
			if e := parser.Check(lines); e != api.ErrInvalid {
				t.Errorf("Check of %.300s: %d", show(lines), e)
			}
		}
	}
}

// spelt writes a tree as a source.
func spelt(lines []api.Line, depth int) string {
	var b strings.Builder
	for _, l := range lines {
		b.WriteString(strings.Repeat("  ", depth))
		for _, t := range l.Tokens {
			s, _ := lexer.Spell(t)
			b.WriteString(s + " ")
		}
		if l.Heading {
			b.WriteString(":")
		}
		b.WriteString("\n" + spelt(l.Kids, depth+1))
	}
	return b.String()
}

// TestWellFormedTreesHaveSources writes trees and reads them again.
func TestWellFormedTreesHaveSources(t *testing.T) {
	for _, lines := range goodTrees() {
		s := spelt(lines, 0)
		if len(s) > api.MaxSource || strings.Contains(s, strings.Repeat("w", 40)+" "+strings.Repeat("w", 40)) {
			continue
		}
		if again, f := parser.Parse(s); f != (api.Fault{}) || !parser.Same(again, lines) || !parser.Same(lines, again) {
			t.Errorf("Parse of %.300q: %.300s, %v", s, show(again), f)
		}
	}
}

func TestMeasure(t *testing.T) {
	for _, c := range []struct {
		lines []api.Line
		want  parser.Total
	}{
		{nil, parser.Total{}}, {[]api.Line{}, parser.Total{}}, {[]api.Line{{}}, parser.Total{Lines: 1, Depth: 1}}, {[]api.Line{{}, {Heading: true}}, parser.Total{Lines: 2, Depth: 1}}, {[]api.Line{head("a"), note(word("a"), number(1))}, parser.Total{Lines: 2, Tokens: 3, Depth: 1}},
		{[]api.Line{{Kids: []api.Line{{Kids: []api.Line{{}, {}}}, note(word("?"))}}}, parser.Total{Lines: 5, Tokens: 1, Depth: 3}}, {[]api.Line{head("a", head("b", head("c"))), head("d", note(sign(":"), sign(":")))}, parser.Total{Lines: 5, Tokens: 6, Depth: 3}}, {[]api.Line{head("d", note(word("x"))), head("a", head("b", head("c")))}, parser.Total{Lines: 5, Tokens: 5, Depth: 3}},
		{deep(1000), parser.Total{Lines: 1000, Tokens: 1000, Depth: 1000}}, {deep(60000), parser.Total{Lines: 60000, Tokens: 60000, Depth: 60000}}, {[]api.Line{long(5000, api.Token{})}, parser.Total{Lines: 1, Tokens: 5000, Depth: 1}}, {slices.Repeat([]api.Line{head("a", note(word("b"), word("c")))}, 50000), parser.Total{Lines: 100000, Tokens: 150000, Depth: 2}},
	} {
		if sum := parser.Measure(c.lines); sum != c.want {
			t.Errorf("Measure of %.200s: %v, not %v", fmt.Sprint(len(c.lines)), sum, c.want)
		}
	}
}

// differentTrees are no two the same.
func differentTrees() [][]api.Line {
	return [][]api.Line{
		nil, {{}}, {{}, {}}, {{Heading: true}}, {{Heading: true}, {}}, {{}, {Heading: true}}, {{Kids: []api.Line{{}}}}, {{Kids: []api.Line{{}}}, {}}, {{}, {Kids: []api.Line{{}}}}, {{Kids: []api.Line{{Heading: true}}}}, {{Kids: []api.Line{{}, {}}}}, {{Kids: []api.Line{{Kids: []api.Line{{}}}}}}, {{Heading: true, Kids: []api.Line{{}}}},
		{note(word("a"))}, {note(word("A"))}, {note(word("ab"))}, {note(word(""))}, {note(text("a"))}, {note(sign("a"))}, {note(api.Token{Text: "a"})}, {note(api.Token{Kind: 9, Text: "a"})}, {note(api.Token{Kind: api.TokWord, Text: "a", N: 1})}, {note(number(0))}, {note(number(1))}, {note(number(-1))}, {note(number(math.MinInt64))}, {note(api.Token{Kind: api.TokNumber, Text: "1", N: 1})}, {note(api.Token{})},
		{note(word("a"), word("b"))}, {note(word("b"), word("a"))}, {note(word("a"), word("b"), word("b"))}, {note(word("a")), note(word("b"))}, {note(word("b")), note(word("a"))}, {head("a")}, {head("a", note(word("b")))}, {head("a", note(word("b")), note(word("c")))}, {head("a", note(word("c")), note(word("b")))}, {head("a", note(word("b"))), note(word("c"))}, {head("a"), note(word("b"))}, {head("a", head("b"))}, {head("a", head("b", note(word("c"))))}, {head("a", head("b"), note(word("c")))},
		{head("a", head("b", note(word("c"), number(7))))}, {head("a", head("b", note(word("c"), number(8))))}, deep(7), deep(8), deep(3000),
	}
}

// moved is a copy of a tree with other numbers of lines and columns.
func moved(lines []api.Line, by int) []api.Line {
	list := []api.Line{}
	for i, l := range lines {
		l.Tokens, l.Kids, l.At = slices.Clone(l.Tokens), moved(l.Kids, by-1), l.At+by*(i+1)
		for k := range l.Tokens {
			l.Tokens[k].At += by + k
		}
		list = append(list, l)
	}
	return list
}

func TestSame(t *testing.T) {
	trees := differentTrees()
	for i, a := range trees {
		for k, b := range trees {
			for _, by := range []int{0, 1, -9, math.MaxInt / 4} {
				if same := parser.Same(a, moved(b, by)); same != (i == k) {
					t.Errorf("Same of %.200s and %.200s: %v", show(a[:min(len(a), 1)]), show(b[:min(len(b), 1)]), same)
				}
			}
		}
	}
	empty := []api.Line{{Tokens: []api.Token{}, Kids: []api.Line{}}}
	if !parser.Same(empty, []api.Line{{}}) || !parser.Same([]api.Line{}, nil) || !parser.Same(deep(60000), deep(60000)) || parser.Same(deep(60000), deep(60001)) {
		t.Error("Same of empty lists, and of deep trees")
	}
}

// someTree makes a tree that is well formed but for a slip here and there.
func someTree(random *rand.Rand, levels int) []api.Line {
	var lines []api.Line
	for range random.Intn(4) {
		l := note(word("a"))
		for range random.Intn(3) {
			l.Tokens = append(l.Tokens, []api.Token{word("b"), number(5), text("x"), sign("("), sign(":")}[random.Intn(5)])
		}
		if last := len(l.Tokens) - 1; l.Tokens[last] == sign(":") && random.Intn(10) > 0 {
			l.Heading = true
		}
		if levels > 1 && random.Intn(2) == 0 {
			l.Kids = someTree(random, levels-1)
			l.Heading = l.Heading || random.Intn(20) > 0
		}
		switch random.Intn(300) {
		case 0:
			l.Tokens = nil
		case 1:
			l.Tokens[0].N = 5
		case 2:
			l.Tokens = slices.Repeat(l.Tokens, 32)
		case 3:
			l.Tokens = slices.Repeat([]api.Token{word("c")}, 63+random.Intn(3))
		}
		lines = append(lines, l)
	}
	return lines
}

// slowCheck collects the lines of a tree with their depths.
func slowCheck(lines []api.Line) api.Errno {
	type placed struct {
		l     api.Line
		level int
	}
	var all []placed
	for _, l := range lines {
		all = append(all, placed{l, 1})
	}
	for i := 0; i < len(all); i++ {
		for _, kid := range all[i].l.Kids {
			all = append(all, placed{kid, all[i].level + 1})
		}
	}
	for _, p := range all {
		if len(p.l.Tokens) == 0 || !p.l.Heading && len(p.l.Kids) > 0 {
			return api.ErrInvalid
		}
		for i, t := range p.l.Tokens {
			t.At = 0
			if !lexer.Valid(t) || i == len(p.l.Tokens)-1 && !p.l.Heading && t == sign(":") {
				return api.ErrInvalid
			}
		}
	}
	for _, p := range all {
		if p.level > 7 || len(p.l.Tokens) > 64 || p.l.Heading && len(p.l.Tokens) > 63 {
			return api.ErrTooMany
		}
	}
	return api.OK
}

func TestRandomTrees(t *testing.T) {
	random := rand.New(rand.NewSource(102))
	seen := map[api.Errno]int{}
	for range 20000 {
		lines := someTree(random, 1+random.Intn(10))
		want := slowCheck(lines)
		seen[want]++
		if e := parser.Check(lines); e != want {
			t.Errorf("Check of %s: %d, not %d", show(lines), e, want)
		}
		if want != api.OK {
			continue
		}
		if again, f := parser.Parse(spelt(lines, 0)); f != (api.Fault{}) || !parser.Same(lines, again) || parser.Measure(again) != parser.Measure(lines) {
			t.Errorf("Parse of %q: %s, %v", spelt(lines, 0), show(again), f)
		}
	}
	if seen[api.OK] < 1000 || seen[api.ErrInvalid] < 300 || seen[api.ErrTooMany] < 100 {
		t.Errorf("trees by errors: %v", seen)
	}
}
