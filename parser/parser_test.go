package parser_test

import (
	"fmt"
	"math"
	"math/rand"
	"reflect"
	"slices"
	"strings"
	"testing"

	"gangsaw/api"
	"gangsaw/lexer"
	"gangsaw/parser"
)

func word(s string) api.Token {
	return api.Token{Kind: api.TokWord, Text: s}
}

func number(n int64) api.Token {
	return api.Token{Kind: api.TokNumber, N: n}
}

func text(s string) api.Token {
	return api.Token{Kind: api.TokText, Text: s}
}

func sign(s string) api.Token {
	return api.Token{Kind: api.TokSign, Text: s}
}

// note is a line that is no heading.
func note(tokens ...api.Token) api.Line {
	return api.Line{Tokens: tokens}
}

// head is a heading with one word.
func head(s string, kids ...api.Line) api.Line {
	return api.Line{Tokens: []api.Token{word(s)}, Heading: true, Kids: kids}
}

// at puts tokens into columns.
func at(tokens []api.Token, columns ...int) []api.Token {
	list := slices.Clone(tokens)
	for i := range list {
		list[i].At = columns[i]
	}
	return list
}

// source joins lines.
func source(lines ...string) string {
	return strings.Join(lines, "\n")
}

// show writes a tree with all that it has; nil and empty lists look the same.
func show(lines []api.Line) string {
	return fmt.Sprintf("%+v", lines)
}

// wantTree tests that a source has a tree.
func wantTree(t *testing.T, source string, want []api.Line) {
	t.Helper()
	lines, f := parser.Parse(source)
	if f != (api.Fault{}) || show(lines) != show(want) {
		t.Errorf("Parse of %.200q: %s, %v, not %s", source, show(lines), f, show(want))
	}
}

// wantFault tests that a source is refused.
func wantFault(t *testing.T, source string, code api.Errno, line, col int) {
	t.Helper()
	lines, f := parser.Parse(source)
	if f != (api.Fault{Code: code, Line: line, Col: col}) || len(lines) != 0 {
		t.Errorf("Parse of %.200q: %.200s, %v, not the code %d at line %d and column %d", source, show(lines), f, code, line, col)
	}
}

func TestSignatures(t *testing.T) {
	var (
		_ func(string) ([]api.Line, api.Fault)     = parser.Parse
		_ func([]api.Line) api.Errno               = parser.Check
		_ func([]api.Line) parser.Total            = parser.Measure
		_ func(api.Line) string                    = parser.Word
		_ func([]api.Line, string) []api.Line      = parser.Pick
		_ func([]api.Line, []string) api.Fault     = parser.Only
		_ func(api.Line, []string) api.Fault       = parser.Shape
		_ func(a, b []api.Line) bool               = parser.Same
		_ func(api.Errno, api.Line, int) api.Fault = parser.Bad
		_ struct{ Lines, Tokens, Depth int }       = parser.Total{}
	)
}

func TestExampleOfWall(t *testing.T) {
	s := source("wall south:", "  stone a 100", "  stone b 120", "note")
	want := []api.Line{
		{Tokens: at([]api.Token{word("wall"), word("south")}, 1, 6), Heading: true, At: 1, Kids: []api.Line{
			{Tokens: at([]api.Token{word("stone"), word("a"), number(100)}, 3, 9, 11), At: 2},
			{Tokens: at([]api.Token{word("stone"), word("b"), number(120)}, 3, 9, 11), At: 3},
		}},
		{Tokens: at([]api.Token{word("note")}, 1), At: 4},
	}
	wantTree(t, s, want)
	wantTree(t, s+"\n", want)
	if m := parser.Measure(want); m != (parser.Total{Lines: 4, Tokens: 9, Depth: 2}) {
		t.Errorf("Measure: %v", m)
	}
	wantFault(t, source("note", "  stone a"), api.ErrSyntax, 2, 3)
}

func TestTrees(t *testing.T) {
	a, b := at([]api.Token{word("a")}, 1), at([]api.Token{word("b")}, 3)
	for s, want := range map[string][]api.Line{
		"": nil, "\n": nil, "\n\n\n": nil, "# c": nil, "   # c\n \n\n#": nil, strings.Repeat(" ", 1000): nil, "#\n" + strings.Repeat(" ", 15) + "#": nil,
		"a": {{Tokens: a, At: 1}}, "a\n": {{Tokens: a, At: 1}}, "\na": {{Tokens: a, At: 2}}, "# c\n\na # c\n\n": {{Tokens: a, At: 3}},
		"a:": {{Tokens: a, Heading: true, At: 1}}, "a:\n": {{Tokens: a, Heading: true, At: 1}}, "a:\na:": {{Tokens: a, Heading: true, At: 1}, {Tokens: a, Heading: true, At: 2}},
		"a:\n  b":                      {{Tokens: a, Heading: true, At: 1, Kids: []api.Line{{Tokens: b, At: 2}}}},
		"a:\n  b\na":                   {{Tokens: a, Heading: true, At: 1, Kids: []api.Line{{Tokens: b, At: 2}}}, {Tokens: a, At: 3}},
		"\na: # c\n\n#\n # x\n  b\n\n": {{Tokens: a, Heading: true, At: 2, Kids: []api.Line{{Tokens: b, At: 6}}}},
		"a:\n# c\n  b\n               #\n  b:\n\na": {{Tokens: a, Heading: true, At: 1, Kids: []api.Line{{Tokens: b, At: 3}, {Tokens: b, Heading: true, At: 5}}}, {Tokens: a, At: 7}},
		"a:\n  b:\n    c 5\n  b\na\na:\n  b": {
			{Tokens: a, Heading: true, At: 1, Kids: []api.Line{{Tokens: b, Heading: true, At: 2, Kids: []api.Line{{Tokens: at([]api.Token{word("c"), number(5)}, 5, 7), At: 3}}}, {Tokens: b, At: 4}}},
			{Tokens: a, At: 5}, {Tokens: a, Heading: true, At: 6, Kids: []api.Line{{Tokens: b, At: 7}}},
		},
		"a:\n  b:\n    c 5\na:": {{Tokens: a, Heading: true, At: 1, Kids: []api.Line{{Tokens: b, Heading: true, At: 2, Kids: []api.Line{{Tokens: at([]api.Token{word("c"), number(5)}, 5, 7), At: 3}}}}}, {Tokens: a, Heading: true, At: 4}},
		": :\n  -5 \"x\" :":     {{Tokens: at([]api.Token{sign(":")}, 1), Heading: true, At: 1, Kids: []api.Line{{Tokens: at([]api.Token{number(-5), text("x")}, 3, 6), Heading: true, At: 2}}}},
	} {
		wantTree(t, s, want)
	}
}

func TestFaults(t *testing.T) {
	for s, want := range map[string]api.Fault{
		"  a":                                 {Code: api.ErrSyntax, Line: 1, Col: 3},
		"    a":                               {Code: api.ErrSyntax, Line: 1, Col: 5},
		"\n# c\n  a: b":                       {Code: api.ErrSyntax, Line: 3, Col: 3},
		"a\n  b":                              {Code: api.ErrSyntax, Line: 2, Col: 3},
		"a\n\n#\n  b":                         {Code: api.ErrSyntax, Line: 4, Col: 3},
		"a:\n    b":                           {Code: api.ErrSyntax, Line: 2, Col: 5},
		"a:\n      b":                         {Code: api.ErrSyntax, Line: 2, Col: 7},
		"a:\n  b\n    c":                      {Code: api.ErrSyntax, Line: 3, Col: 5},
		"a:\n  b:\n      c":                   {Code: api.ErrSyntax, Line: 3, Col: 7},
		"a:\n  b:\na\n  b":                    {Code: api.ErrSyntax, Line: 4, Col: 3},
		"a:\n  b:\n    c\n  b\n    c":         {Code: api.ErrSyntax, Line: 5, Col: 5},
		"a:\n  b:\n    c\na:\n    c":          {Code: api.ErrSyntax, Line: 5, Col: 5},
		"a:\n  b\na\n  b":                     {Code: api.ErrSyntax, Line: 4, Col: 3},
		"a\n b":                               {Code: api.ErrSyntax, Line: 2, Col: 2},
		"a:\n   b":                            {Code: api.ErrSyntax, Line: 2, Col: 4},
		"a\n?":                                {Code: api.ErrSyntax, Line: 2, Col: 1},
		"a \"":                                {Code: api.ErrSyntax, Line: 1, Col: 3},
		"a:\n  b \"\"":                        {Code: api.ErrName, Line: 2, Col: 5},
		"a\n\n1000000000000001":               {Code: api.ErrRange, Line: 3, Col: 1},
		"a\n:":                                {Code: api.ErrSyntax, Line: 2, Col: 1},
		"a\n" + strings.Repeat(" ", 1001):     {Code: api.ErrTooMany, Line: 2, Col: 1001},
		"a\n" + strings.Repeat(" ", 14) + "b": {Code: api.ErrTooMany, Line: 2, Col: 15},
		"a\n" + strings.Repeat("b ", 65):      {Code: api.ErrTooMany, Line: 2, Col: 129},
		"a\r\nb":                              {Code: api.ErrSyntax, Line: 1, Col: 2},
		// Line by line; in a line what Scan says comes first.
		"  a\n?":                 {Code: api.ErrSyntax, Line: 1, Col: 3},
		"a\n  b\n\"\"":           {Code: api.ErrSyntax, Line: 2, Col: 3},
		"a \"\"\n  b":            {Code: api.ErrName, Line: 1, Col: 3},
		"  a \"\"":               {Code: api.ErrName, Line: 1, Col: 5},
		"a\n  b 007 \"\"":        {Code: api.ErrSyntax, Line: 2, Col: 5},
		"a\n  1000000000000001":  {Code: api.ErrRange, Line: 2, Col: 3},
		"\"\"\n1000000000000001": {Code: api.ErrName, Line: 1, Col: 1},
	} {
		wantFault(t, s, want.Code, want.Line, want.Col)
		wantFault(t, s+"\n", want.Code, want.Line, want.Col)
		wantFault(t, s+"\n?\n  x\n", want.Code, want.Line, want.Col)
		wantFault(t, "\n#\nz\n"+s, want.Code, want.Line+3, want.Col)
	}
}

func TestLongSources(t *testing.T) {
	for _, c := range []struct {
		part  string
		lines int
	}{{"a\n", 32768}, {"\n", 0}, {"# comment so far\n", 0}, {"a:\n  b\n", 16384}, {"a:\n  b:\n", 15000}} {
		s := strings.Repeat(c.part, api.MaxSource/len(c.part))
		s += strings.Repeat(" ", api.MaxSource-len(s))
		lines, f := parser.Parse(s)
		if sum := parser.Measure(lines); len(s) != api.MaxSource || f != (api.Fault{}) || parser.Check(lines) != api.OK || sum.Lines != strings.Count(s, "a")+strings.Count(s, "b") && c.lines > 0 || c.lines == 0 && sum != (parser.Total{}) {
			t.Errorf("Parse of many times %q: %v, %v", c.part, sum, f)
		}
		wantFault(t, s+"\n", api.ErrTooMany, 1, 1)
		wantFault(t, s+" ", api.ErrTooMany, 1, 1)
		wantFault(t, "?\n"+s, api.ErrTooMany, 1, 1)
	}
	// The last line of all.
	s := strings.Repeat("\n", api.MaxSource-1)
	wantTree(t, s+"a", []api.Line{{Tokens: at([]api.Token{word("a")}, 1), At: api.MaxSource}})
	wantFault(t, s+"?", api.ErrSyntax, api.MaxSource, 1)
	wantFault(t, s+"a\n", api.ErrTooMany, 1, 1)
	wantFault(t, strings.Repeat("x", api.MaxSource), api.ErrTooMany, 1, 1001)
	wantFault(t, strings.Repeat("x", api.MaxSource+1), api.ErrTooMany, 1, 1)
	wantFault(t, strings.Repeat("x", 1<<22), api.ErrTooMany, 1, 1)
	wantTree(t, strings.Repeat("\n", api.MaxSource), nil)
	wantFault(t, strings.Repeat("\n", api.MaxSource+1), api.ErrTooMany, 1, 1)
}

// stairs is a source whose lines lie within each other.
func stairs(levels int, last string) string {
	var lines []string
	for depth := range levels - 1 {
		lines = append(lines, strings.Repeat("  ", depth)+"h:")
	}
	return source(append(lines, strings.Repeat("  ", levels-1)+last)...)
}

func TestDeepSources(t *testing.T) {
	for levels := 1; levels <= api.MaxIndent+1; levels++ {
		for _, last := range []string{"z", "z:"} {
			lines, f := parser.Parse(stairs(levels, last))
			if sum := parser.Measure(lines); f != (api.Fault{}) || sum != (parser.Total{Lines: levels, Tokens: levels, Depth: levels}) || parser.Check(lines) != api.OK {
				t.Errorf("Parse of %d levels: %v, %v", levels, sum, f)
			}
			for depth := 1; depth <= levels; depth++ {
				if len(lines) != 1 || lines[0].At != depth || lines[0].Tokens[0].At != 2*depth-1 || lines[0].Heading != (depth < levels || last == "z:") {
					t.Fatalf("%d levels at depth %d: %s", levels, depth, show(lines))
				}
				lines = lines[0].Kids
			}
			if len(lines) != 0 {
				t.Errorf("%d levels: %s is left", levels, show(lines))
			}
		}
		// Back to each depth.
		for back := range levels {
			lines, f := parser.Parse(stairs(levels, "z:") + "\n" + strings.Repeat("  ", back) + "y")
			within := lines
			for range back {
				within = within[0].Kids
			}
			if f != (api.Fault{}) || len(within) != 2 || parser.Word(within[1]) != "y" || parser.Measure(lines).Lines != levels+1 {
				t.Errorf("%d levels, and back to %d: %s, %v", levels, back, show(lines), f)
			}
		}
		for deeper := levels; deeper <= api.MaxIndent; deeper++ {
			wantFault(t, stairs(levels, "z")+"\n"+strings.Repeat("  ", deeper)+"y", api.ErrSyntax, levels+1, 2*deeper+1)
		}
		for deeper := levels + 1; deeper <= api.MaxIndent; deeper++ {
			wantFault(t, stairs(levels, "z:")+"\n"+strings.Repeat("  ", deeper)+"y", api.ErrSyntax, levels+1, 2*deeper+1)
		}
	}
	wantFault(t, stairs(api.MaxIndent+2, "z"), api.ErrTooMany, api.MaxIndent+2, 2*api.MaxIndent+3)
}

// slowParse finds the line to which each line belongs by looking at all lines before it.
func slowParse(s string) ([]api.Line, api.Fault) {
	var all []api.Line
	var depths, parents []int
	for i, row := range strings.Split(s, "\n") {
		scanned, f := lexer.Scan(row)
		if f.Code != api.OK {
			return nil, api.Fault{Code: f.Code, Line: i + 1, Col: f.Col}
		}
		if scanned.Tokens == nil {
			continue
		}
		depth, parent := scanned.Indent, -1
		most := 0
		if len(all) > 0 {
			most = depths[len(all)-1]
			if all[len(all)-1].Heading {
				most++
			}
		}
		if depth > most {
			return nil, api.Fault{Code: api.ErrSyntax, Line: i + 1, Col: scanned.Tokens[0].At}
		}
		for k, d := range depths {
			if d == depth-1 {
				parent = k
			}
		}
		all, depths, parents = append(all, api.Line{Tokens: scanned.Tokens, Heading: scanned.Heading, At: i + 1}), append(depths, depth), append(parents, parent)
	}
	var kidsOf func(parent int) []api.Line
	kidsOf = func(parent int) []api.Line {
		var kids []api.Line
		for i, l := range all {
			if parents[i] == parent {
				l.Kids = kidsOf(i)
				kids = append(kids, l)
			}
		}
		return kids
	}
	return kidsOf(-1), api.Fault{}
}

// compare compares Parse with the slow one, and looks for the properties of P10.5.
func compare(t *testing.T, rows []string) {
	t.Helper()
	s := source(rows...)
	want, f := slowParse(s)
	lines, g := parser.Parse(s)
	if f != g || show(lines) != show(want) {
		t.Fatalf("Parse of %q: %s, %v, not %s, %v", s, show(lines), g, show(want), f)
	}
	if e := parser.Check(lines); e != api.OK {
		t.Errorf("Check of the tree of %q: %d", s, e)
	}
	front, h := parser.Parse(source(rows[:len(rows)-1]...) + "\n")
	if h != (api.Fault{}) && h != g || g == (api.Fault{}) && parser.Measure(front).Lines > parser.Measure(lines).Lines {
		t.Errorf("Parse of %q without its last line: %v, not %v", s, h, g)
	}
	var spread []string
	for _, row := range rows {
		spread = append(spread, "", "   # c", row+" # d")
	}
	others, h := parser.Parse(source(spread...))
	if h.Code != g.Code || g.Code != api.OK && (h.Line != 3*g.Line || h.Col != g.Col) || !parser.Same(lines, others) {
		t.Errorf("Parse of %q with other lines: %s, %v", s, show(others), h)
	}
}

// TestSmallSources parses all sources of up to 5 lines of a list.
func TestSmallSources(t *testing.T) {
	list := []string{"", "# c", "a", "a:", "  b", "  b:", "    c", "    c 1:", "      d", " x", "?"}
	var visit func(rows []string)
	visit = func(rows []string) {
		if len(rows) > 0 {
			compare(t, rows)
		}
		if len(rows) < 4 || len(rows) == 4 && !slices.Contains(rows, "") && !slices.Contains(rows, "?") && !slices.Contains(rows, " x") {
			for _, row := range list {
				visit(append(slices.Clone(rows), row))
			}
		}
	}
	visit(nil)
}

func TestRandomSources(t *testing.T) {
	random := rand.New(rand.NewSource(10))
	for range 5000 {
		depth := 0
		var rows []string
		for range 1 + random.Intn(30) {
			row := strings.Repeat("  ", depth) + []string{"a", "stone x 1", "\"t\" = 5", "f(x, y)", "-1"}[random.Intn(5)]
			if random.Intn(2) == 0 && depth < api.MaxIndent {
				row += ":"
				depth++
			}
			depth -= random.Intn(depth+1) * random.Intn(2)
			if random.Intn(200) == 0 {
				depth = random.Intn(api.MaxIndent + 1)
			}
			rows = append(rows, row)
		}
		compare(t, rows)
	}
}

func TestWord(t *testing.T) {
	for _, c := range []struct {
		l    api.Line
		want string
	}{
		{api.Line{}, ""}, {head("wall"), "wall"}, {note(word("Z_1"), word("b")), "Z_1"}, {note(text("a"), word("b")), ""}, {note(number(5), word("b")), ""}, {note(sign("("), word("b")), ""}, {note(api.Token{Text: "a"}), ""}, {note(api.Token{Kind: 5, Text: "a"}), ""},
		{note(api.Token{Kind: api.TokNumber, Text: "a"}), ""}, {note(api.Token{Kind: api.TokWord, Text: "?? ", N: 5, At: -1}), "?? "}, {api.Line{Kids: []api.Line{head("a")}}, ""}, {note(word("")), ""},
	} {
		if s := parser.Word(c.l); s != c.want {
			t.Errorf("Word of %v: %q", c.l, s)
		}
	}
}

// manyLines begin with words and with other tokens.
func manyLines() []api.Line {
	return []api.Line{
		{Tokens: at([]api.Token{word("stone"), word("a")}, 3, 9), At: 1}, {Tokens: at([]api.Token{word("bed")}, 3), Heading: true, At: 2, Kids: []api.Line{{Tokens: at([]api.Token{word("stone"), number(5)}, 5, 11), Heading: true, At: 3, Kids: []api.Line{head("stone")}}, note(number(1))}},
		{Tokens: at([]api.Token{text("stone"), word("stone")}, 3, 11), At: 5}, {Tokens: at([]api.Token{word("stone")}, 3), Heading: true, At: 6, Kids: []api.Line{{Tokens: at([]api.Token{word("bed")}, 5), At: 7}}}, {Tokens: at([]api.Token{sign("(")}, 7), At: 8}, {Tokens: at([]api.Token{word("Stone")}, 3), At: 9}, {At: 10}, {Tokens: at([]api.Token{word("stones"), word("stone")}, 3, 9), At: 11},
	}
}

func TestPick(t *testing.T) {
	lines := manyLines()
	for w, want := range map[string][]int{"stone": {0, 3}, "bed": {1}, "Stone": {5}, "stones": {7}, "ston": {}, "(": {}, "x": {}, "": {2, 4, 6}} {
		picked := parser.Pick(lines, w)
		var list []api.Line
		for _, i := range want {
			list = append(list, lines[i])
		}
		if show(picked) != show(list) {
			t.Errorf("Pick of %q: %s", w, show(picked))
		}
	}
	if picked := parser.Pick(nil, "stone"); len(picked) != 0 {
		t.Errorf("Pick of no lines: %v", picked)
	}
	same := []api.Line{head("a"), head("a", note(number(1))), head("b"), head("a")}
	if picked := parser.Pick(same, "a"); show(picked) != show([]api.Line{same[0], same[1], same[3]}) {
		t.Errorf("Pick: %s", show(picked))
	}
}

// spoil changes all that a tree has.
func spoil(lines []api.Line) {
	for i := range lines {
		for k := range lines[i].Tokens {
			lines[i].Tokens[k] = word("spoilt")
		}
		spoil(lines[i].Kids)
		lines[i].At, lines[i].Heading = 77, !lines[i].Heading
		_ = append(lines[i].Tokens[:0], word("more"))
		_ = append(lines[i].Kids[:0], head("more"))
	}
}

func TestMemory(t *testing.T) {
	lines := manyLines()
	for _, w := range []string{"stone", "bed", "Stone", ""} {
		first, second := parser.Pick(lines, w), parser.Pick(lines, w)
		spoil(first)
		if show(lines) != show(manyLines()) || show(second) != show(parser.Pick(manyLines(), w)) {
			t.Errorf("Pick of %q shares memory: %s, %s", w, show(lines), show(second))
		}
	}
	// The kids and tokens of one argument may be the same memory, those of a result may not.
	twin := head("a", head("b"), note(number(1), number(2)))
	picked := parser.Pick([]api.Line{twin, twin}, "a")
	before := show(picked[1:])
	spoil(picked[:1])
	if show(picked[1:]) != before {
		t.Errorf("lines of a result share memory: %s", show(picked))
	}
	s := source("a:", "  b 1:", "    c", "    d", "  e", "f")
	first, _ := parser.Parse(s)
	second, _ := parser.Parse(s)
	before = show(second)
	spoil(first)
	if show(second) != before {
		t.Errorf("Parse shares memory: %s", show(second))
	}
	for i := range second {
		third, _ := parser.Parse(s)
		spoil(third[i : i+1])
		rest := slices.Delete(slices.Clone(third), i, i+1)
		if show(rest) != show(slices.Delete(slices.Clone(second), i, i+1)) {
			t.Errorf("lines of a tree share memory: %s", show(third))
		}
	}
}

func TestArgumentsAreNotChanged(t *testing.T) {
	lines, pattern, words := manyLines(), []string{"stone", "NAME*"}, []string{"stone", "bed"}
	parser.Check(lines)
	parser.Measure(lines)
	parser.Same(lines, lines)
	parser.Only(lines, words)
	for _, l := range lines {
		for _, p := range [][]string{pattern, {"stone+"}, {"NAME", "NAME+"}, {"ANY*"}} {
			before := slices.Clone(p)
			parser.Shape(l, p)
			if !slices.Equal(p, before) {
				t.Errorf("Shape changed %q into %q", before, p)
			}
		}
		parser.Word(l)
		parser.Bad(api.ErrName, l, 0)
	}
	if !reflect.DeepEqual(lines, manyLines()) || !slices.Equal(pattern, []string{"stone", "NAME*"}) || !slices.Equal(words, []string{"stone", "bed"}) {
		t.Errorf("changed: %s, %q, %q", show(lines), pattern, words)
	}
}

func TestOnly(t *testing.T) {
	lines := manyLines()
	syntax := func(line, col int) api.Fault {
		return api.Fault{Code: api.ErrSyntax, Line: line, Col: col}
	}
	for _, c := range []struct {
		lines []api.Line
		words []string
		want  api.Fault
	}{
		{nil, nil, api.Fault{}}, {nil, []string{"a"}, api.Fault{}}, {[]api.Line{}, []string{}, api.Fault{}},
		{lines, nil, syntax(1, 3)}, {lines, []string{"stone"}, syntax(2, 3)}, {lines, []string{"bed"}, syntax(1, 3)}, {lines, []string{"stone", "bed"}, syntax(5, 3)}, {lines, []string{"bed", "stone", "(", "Stone", "stones"}, syntax(5, 3)},
		{lines[:2], []string{"bed", "stone"}, api.Fault{}}, {lines[:2], []string{"x", "stone", "bed", "stone"}, api.Fault{}}, {lines[3:4], []string{"stone"}, api.Fault{}}, {lines[4:], []string{"("}, syntax(8, 7)}, {lines[5:], []string{"stone", "stones"}, syntax(9, 3)}, {lines[5:], []string{"Stone", "stones"}, syntax(10, 1)},
		{lines[7:], []string{"stone"}, syntax(11, 3)}, {lines[7:], []string{"stones"}, api.Fault{}}, {lines[7:], []string{"stoness", "ston", "WORD", "NAME", "ANY"}, syntax(11, 3)}, {lines[6:], []string{"stones"}, syntax(10, 1)}, {lines[4:5], []string{"x"}, syntax(8, 7)},
		{[]api.Line{head("a", note(number(5)))}, []string{"a"}, api.Fault{}},
	} {
		if f := parser.Only(c.lines, c.words); f != c.want {
			t.Errorf("Only of %s with %q: %v, not %v", show(c.lines), c.words, f, c.want)
		}
	}
}

func TestBad(t *testing.T) {
	l := api.Line{Tokens: at([]api.Token{word("a"), number(1), sign(":")}, 5, 70, 8), Heading: true, Kids: manyLines(), At: 12}
	empty := api.Line{Kids: manyLines(), At: 9}
	for _, code := range []api.Errno{api.ErrInvalid, api.ErrSyntax, api.ErrStale, -5, 1000} {
		for _, c := range []struct {
			l     api.Line
			token int
			want  api.Fault
		}{
			{l, 0, api.Fault{Line: 12, Col: 5}}, {l, 1, api.Fault{Line: 12, Col: 70}}, {l, 2, api.Fault{Line: 12, Col: 8}}, {l, 3, api.Fault{Line: 12, Col: 8}}, {l, 100, api.Fault{Line: 12, Col: 8}}, {l, math.MaxInt, api.Fault{Line: 12, Col: 8}}, {l, -1, api.Fault{Line: 12, Col: 8}}, {l, -3, api.Fault{Line: 12, Col: 8}}, {l, math.MinInt, api.Fault{Line: 12, Col: 8}},
			{empty, 0, api.Fault{Line: 9, Col: 1}}, {empty, 1, api.Fault{Line: 9, Col: 1}}, {empty, -1, api.Fault{Line: 9, Col: 1}}, {empty, math.MinInt, api.Fault{Line: 9, Col: 1}}, {api.Line{}, 0, api.Fault{Col: 1}}, {api.Line{At: -4, Tokens: []api.Token{{}}}, 0, api.Fault{Line: -4}}, {api.Line{Tokens: []api.Token{{At: -6}}}, 7, api.Fault{Col: -6}},
		} {
			c.want.Code = code
			if f := parser.Bad(code, c.l, c.token); f != c.want {
				t.Errorf("Bad of %d at %d of %s: %v, not %v", code, c.token, show([]api.Line{c.l}), f, c.want)
			}
		}
	}
}
