package printer_test

import (
	"fmt"
	"math"
	"reflect"
	"slices"
	"strings"
	"testing"

	"gangsaw/api"
	"gangsaw/lexer"
	"gangsaw/parser"
	"gangsaw/printer"
)

func word(s string) api.Token {
	return api.Token{Kind: api.TokWord, Text: s}
}

func number(n int64) api.Token {
	return api.Token{Kind: api.TokNumber, N: n}
}

func text(s string) api.Token {
	return api.Token{Kind: api.TokText, Text: s}
}

func sign(s string) api.Token {
	return api.Token{Kind: api.TokSign, Text: s}
}

// note is a line that is no heading.
func note(tokens ...api.Token) api.Line {
	return api.Line{Tokens: tokens}
}

// head is a heading with one word.
func head(s string, kids ...api.Line) api.Line {
	return titled(note(word(s)), kids...)
}

// titled makes a heading of a line.
func titled(l api.Line, kids ...api.Line) api.Line {
	l.Heading, l.Kids = true, kids
	return l
}

// deep is a tree of headings within each other.
func deep(levels int) []api.Line {
	var lines []api.Line
	for range levels {
		lines = []api.Line{head("h", lines...)}
	}
	return lines
}

// read returns the tree of a source.
func read(t *testing.T, lines ...string) []api.Line {
	t.Helper()
	tree, f := parser.Parse(strings.Join(lines, "\n"))
	if f != (api.Fault{}) {
		t.Fatalf("Parse of %q: %v", lines, f)
	}
	return tree
}

// joined ends each row with the byte 10.
func joined(rows ...string) string {
	var b strings.Builder
	for _, row := range rows {
		b.WriteString(row + "\n")
	}
	return b.String()
}

// show writes a tree with all that it has; nil and empty lists look the same.
func show(lines []api.Line) string {
	return fmt.Sprintf("%+v", lines)
}

// wantSource tests that a tree has a canonical source, and what follows from it.
func wantSource(t *testing.T, lines []api.Line, want string) {
	t.Helper()
	before := show(lines)
	if s, e := printer.Print(lines); e != api.OK || s != want {
		t.Errorf("Print of %.300s: %.300q, %d, not %.300q", before, s, e, want)
	}
	if e := printer.Check(lines); e != api.OK {
		t.Errorf("Check of %.300s: %d", before, e)
	}
	numbered, e := printer.Number(lines)
	if parsed, f := parser.Parse(want); e != api.OK || f != (api.Fault{}) || show(parsed) != show(numbered) || !printer.Same(numbered, lines) {
		t.Errorf("Number of %.300s: %.300s, %d, where Parse gives %.300s, %v", before, show(numbered), e, show(parsed), f)
	}
	if again, e := printer.Print(numbered); e != api.OK || again != want {
		t.Errorf("Print of what Number returns for %.300s: %.300q, %d", before, again, e)
	}
	if rows, e := printer.Rows(want); e != api.OK || joined(rows...) != want {
		t.Errorf("Rows of %.300q: %.300s, %d", want, fmt.Sprintf("%q", rows), e)
	}
	if show(lines) != before {
		t.Errorf("%.300s was changed into %.300s", before, show(lines))
	}
}

// wantRefused tests that a tree cannot be printed.
func wantRefused(t *testing.T, lines []api.Line, want api.Errno) {
	t.Helper()
	if e := printer.Check(lines); e != want {
		t.Errorf("Check of %.300s: %d, not %d", show(lines[:1]), e, want)
	}
	if s, e := printer.Print(lines); e != want || s != "" {
		t.Errorf("Print of %.300s: %.100q, %d, not %d", show(lines[:1]), s, e, want)
	}
	if numbered, e := printer.Number(lines); e != want || len(numbered) != 0 {
		t.Errorf("Number of %.300s: %.100s, %d, not %d", show(lines[:1]), show(numbered), e, want)
	}
}

func TestSignatures(t *testing.T) {
	var (
		_ func(api.Token) (string, api.Errno)                  = printer.Token
		_ func([]api.Line) api.Errno                           = printer.Check
		_ func([]api.Line) (string, api.Errno)                 = printer.Print
		_ func([]api.Line) ([]api.Line, api.Errno)             = printer.Number
		_ func(a, b []api.Line) bool                           = printer.Same
		_ func(string) ([]string, api.Errno)                   = printer.Rows
		_ func(old, now []string) ([]printer.Edit, api.Errno)  = printer.Diff
		_ func([]string, []printer.Edit) ([]string, api.Errno) = printer.Apply
		_ func([]printer.Edit) []printer.Edit                  = printer.Invert
		_ [3]int                                               = [...]int{printer.Keep: 0, printer.Delete: 1, printer.Insert: 2}
		_ struct {
			Kind int
			Text string
		} = printer.Edit{}
	)
}

func TestExampleOfWall(t *testing.T) {
	lines := read(t, "wall  south :", "  joint ( 5 , 10 )  # mm")
	wantSource(t, lines, joined("wall south:", "  joint (5, 10)"))
	rows, e := printer.Rows("wall  south :\n  joint ( 5 , 10 )  # mm")
	if e != api.OK || !slices.Equal(rows, []string{"wall south:", "  joint (5, 10)"}) {
		t.Errorf("Rows: %q, %d", rows, e)
	}
}

func TestToken(t *testing.T) {
	for want, token := range map[string]api.Token{
		"a": word("a"), "Bed_2": word("Bed_2"), "0": number(0), "-120": number(-120), "1000000000000000": number(lexer.MaxNumber), "-1000000000000000": number(-lexer.MaxNumber), `"grey granite"`: text("grey granite"), `"("`: text("("), "(": sign("("), ")": sign(")"), ",": sign(","), ":": sign(":"), "/": sign("/"),
		"x": {Kind: api.TokWord, Text: "x", At: math.MinInt}, strings.Repeat("w", api.MaxLabel): word(strings.Repeat("w", api.MaxLabel)),
	} {
		if s, e := printer.Token(token); e != api.OK || s != want {
			t.Errorf("Token of %+v: %q, %d, not %q", token, s, e, want)
		}
	}
	for _, token := range badTokens() {
		if s, e := printer.Token(token); e != api.ErrSyntax || s != "" {
			t.Errorf("Token of %+v: %q, %d", token, s, e)
		}
	}
}

// badTokens are tokens that no line has.
func badTokens() []api.Token {
	return []api.Token{
		{}, word(""), word("1"), word("_a"), word("a b"), word(strings.Repeat("w", 41)), number(lexer.MaxNumber + 1), number(-lexer.MaxNumber - 1), number(math.MinInt64), text(""), text(" a"), text("a "), text(`"`), text(strings.Repeat("~", 41)), text("\n"),
		sign(""), sign("#"), sign("::"), sign("a"), {Kind: 5, Text: "a"}, {Kind: -1}, {Kind: api.TokWord, Text: "a", N: 1}, {Kind: api.TokNumber, Text: "1", N: 1}, {Kind: api.TokSign, Text: "(", N: -1},
	}
}

func TestBlanks(t *testing.T) {
	open, shut, comma, colon := sign("("), sign(")"), sign(","), sign(":")
	a, b := word("a"), number(-5)
	for _, c := range []struct {
		want   string
		tokens []api.Token
	}{
		{"a -5", []api.Token{a, b}}, {"a (", []api.Token{a, open}}, {"(a", []api.Token{open, a}}, {"(-5", []api.Token{open, b}}, {"a)", []api.Token{a, shut}}, {") a", []api.Token{shut, a}}, {"a,", []api.Token{a, comma}}, {", a", []api.Token{comma, a}}, {"a, -5", []api.Token{a, comma, b}},
		{"((", []api.Token{open, open}}, {"()", []api.Token{open, shut}}, {"(,", []api.Token{open, comma}}, {") (", []api.Token{shut, open}}, {"))", []api.Token{shut, shut}}, {"),", []api.Token{shut, comma}}, {", (", []api.Token{comma, open}}, {",)", []api.Token{comma, shut}}, {",,", []api.Token{comma, comma}},
		{"(() ())", []api.Token{open, open, shut, open, shut, shut}}, {"(),", []api.Token{open, shut, comma}}, {"(,)", []api.Token{open, comma, shut}}, {") (,", []api.Token{shut, open, comma}}, {"), (", []api.Token{shut, comma, open}}, {", ()", []api.Token{comma, open, shut}}, {",) (", []api.Token{comma, shut, open}},
		{"(", []api.Token{open}}, {")", []api.Token{shut}}, {",", []api.Token{comma}}, {"a = b / c + 5 < 6 > 7", []api.Token{a, sign("="), word("b"), sign("/"), word("c"), sign("+"), number(5), sign("<"), number(6), sign(">"), number(7)}}, {"= =", []api.Token{sign("="), sign("=")}},
		{": a", []api.Token{colon, a}}, {"a : -5", []api.Token{a, colon, b}}, {"(: :)", []api.Token{open, colon, colon, shut}}, {":, : (", []api.Token{colon, comma, colon, open}},
		// Texts are no signs.
		{`"(" a`, []api.Token{text("("), a}}, {`a ")"`, []api.Token{a, text(")")}}, {`a "," -5`, []api.Token{a, text(","), b}}, {`("(" ")")`, []api.Token{open, text("("), text(")"), shut}}, {`a "x, y", "# z"`, []api.Token{a, text("x, y"), comma, text("# z")}}, {`a ":"`, []api.Token{a, text(":")}},
	} {
		wantSource(t, []api.Line{note(c.tokens...)}, c.want+"\n")
		wantSource(t, []api.Line{titled(note(c.tokens...))}, c.want+":\n")
		wantSource(t, []api.Line{titled(note(a, colon), note(c.tokens...), titled(note(c.tokens...)))}, "a ::\n  "+c.want+"\n  "+c.want+":\n")
	}
	wantSource(t, []api.Line{titled(note(colon))}, "::\n")
	wantSource(t, []api.Line{titled(note(open, colon))}, "(::\n")
}

// TestBlanksOfSources writes the same line with and without each blank.
func TestBlanksOfSources(t *testing.T) {
	parts := []string{"f", "(", "(", "5", ")", ",", "x", ",", ")", ":"}
	for set := range 1 << len(parts) {
		s := ""
		for i, part := range parts {
			if s += part; set>>i&1 == 1 {
				s += "   "
			}
		}
		if rows, e := printer.Rows(s + "# f"); e != api.OK || !slices.Equal(rows, []string{"f ((5), x,):"}) {
			t.Errorf("Rows of %q: %q, %d", s, rows, e)
		}
	}
}

func TestSources(t *testing.T) {
	wantSource(t, nil, "")
	wantSource(t, []api.Line{}, "")
	wantSource(t, []api.Line{{Tokens: []api.Token{word("a")}, Kids: []api.Line{}, At: -7}}, "a\n")
	wantSource(t, deep(7), joined("h:", "  h:", "    h:", "      h:", "        h:", "          h:", "            h:"))
	wantSource(t, []api.Line{note(word("a")), head("b"), head("c", note(number(1)), head("d", note(text("x")), note(sign("("))), note(number(2))), note(word("e"))}, joined("a", "b:", "c:", "  1", "  d:", `    "x"`, "    (", "  2", "e"))
	wantSource(t, []api.Line{note(slices.Repeat([]api.Token{sign("(")}, 64)...)}, strings.Repeat("(", 64)+"\n")
	wantSource(t, []api.Line{titled(note(slices.Repeat([]api.Token{sign(":")}, 63)...))}, strings.Repeat(": ", 63)[:125]+":\n")
	// The kids of two lines may be the same memory.
	twin := head("a", head("b", note(number(1))))
	wantSource(t, []api.Line{twin, twin}, strings.Repeat("a:\n  b:\n    1\n", 2))
}

// longLine has a canonical line of so many bytes at a depth.
func longLine(bytes, depth int, heading bool) api.Line {
	l := api.Line{Heading: heading}
	bytes -= 2 * depth
	if heading {
		bytes--
	}
	for bytes > api.MaxLabel {
		// A blank and at least one more letter must find room behind it.
		length := min(api.MaxLabel, bytes-2)
		l.Tokens = append(l.Tokens, word(strings.Repeat("w", length)))
		bytes -= length + 1
	}
	l.Tokens = append(l.Tokens, word(strings.Repeat("w", bytes)))
	return l
}

// within puts a line into so many others.
func within(l api.Line, depth int) []api.Line {
	lines := []api.Line{l}
	for range depth {
		lines = []api.Line{head("h", lines...)}
	}
	return lines
}

func TestLongLines(t *testing.T) {
	for depth := range api.MaxIndent + 1 {
		for _, heading := range []bool{false, true} {
			most := within(longLine(lexer.MaxLine, depth, heading), depth)
			s, e := printer.Print(most)
			if rows := strings.Split(s, "\n"); e != api.OK || len(rows) != depth+2 || len(rows[depth]) != lexer.MaxLine {
				t.Errorf("Print of a line of %d bytes at the depth %d: %.100q, %d", lexer.MaxLine, depth, s, e)
			}
			wantSource(t, most, s)
			more := within(longLine(lexer.MaxLine+1, depth, heading), depth)
			wantRefused(t, more, api.ErrTooMany)
			wantRefused(t, append([]api.Line{note(word("a"))}, more...), api.ErrTooMany)
			wantRefused(t, append(more, note(word("a"))), api.ErrTooMany)
		}
	}
	wantRefused(t, []api.Line{note(slices.Repeat([]api.Token{word(strings.Repeat("w", 40))}, 64)...)}, api.ErrTooMany)
	wantRefused(t, []api.Line{note(slices.Repeat([]api.Token{text(strings.Repeat("~", 40))}, 24)...)}, api.ErrTooMany)
}

// longTree has a canonical source of so many bytes.
func longTree(bytes int) []api.Line {
	var lines []api.Line
	for bytes > lexer.MaxLine+1 {
		length := min(lexer.MaxLine+1, bytes-2)
		lines = append(lines, longLine(length-1, 0, false))
		bytes -= length
	}
	return append(lines, longLine(bytes-1, 0, false))
}

func TestLongSources(t *testing.T) {
	for _, bytes := range []int{2, 1001, 1002, 1003, 2002, api.MaxSource - 1, api.MaxSource} {
		lines := longTree(bytes)
		s, e := printer.Print(lines)
		if e != api.OK || len(s) != bytes {
			t.Errorf("Print of a tree of %d bytes: %d bytes, %d", bytes, len(s), e)
		}
		wantSource(t, lines, s)
	}
	wantRefused(t, longTree(api.MaxSource+1), api.ErrTooMany)
	wantRefused(t, longTree(2*api.MaxSource), api.ErrTooMany)
	short := slices.Repeat([]api.Line{note(word("a"))}, api.MaxSource/2)
	wantSource(t, short, strings.Repeat("a\n", api.MaxSource/2))
	wantRefused(t, append(short, note(word("a"))), api.ErrTooMany)
	// Within a heading, each line takes two bytes more.
	wantSource(t, []api.Line{head("ab", short[:(api.MaxSource-4)/4]...)}, "ab:\n"+strings.Repeat("  a\n", (api.MaxSource-4)/4))
	wantRefused(t, []api.Line{head("abc", short[:(api.MaxSource-4)/4]...)}, api.ErrTooMany)
	wantRefused(t, []api.Line{head("ab", short[:(api.MaxSource-4)/4]...), note(sign("("))}, api.ErrTooMany)
	wantRefused(t, slices.Repeat([]api.Line{note(word("a"))}, 1000000), api.ErrTooMany)
}

func TestTreesThatAreNotWellFormed(t *testing.T) {
	bad := []api.Line{
		{}, {At: 5}, {Heading: true}, {Heading: true, Kids: []api.Line{head("a")}}, {Kids: []api.Line{head("a")}}, {Tokens: []api.Token{}}, note(sign(":")), note(word("a"), sign(":")), note(sign(":"), sign(":")), {Tokens: []api.Token{word("a")}, Kids: []api.Line{note(word("b"))}},
	}
	for _, token := range badTokens() {
		bad = append(bad, note(token), note(word("a"), token), titled(note(token, word("a")), head("b")))
	}
	long := longLine(lexer.MaxLine+1, 0, false)
	for _, l := range bad {
		for _, lines := range [][]api.Line{{l}, {note(word("a")), l}, {l, note(word("a"))}, {head("a", l)}, {head("a", head("b", l), note(word("c")))}, {long, l}, {l, long}, append(longTree(api.MaxSource+1), l), append(deep(9), l), {note(slices.Repeat([]api.Token{word("a")}, 65)...), l}} {
			wantRefused(t, lines, api.ErrInvalid)
		}
	}
	for _, lines := range [][]api.Line{deep(8), deep(5000), {note(slices.Repeat([]api.Token{sign("(")}, 65)...)}, {titled(note(slices.Repeat([]api.Token{sign("(")}, 64)...))}, {head("a", titled(note(slices.Repeat([]api.Token{number(0)}, 64)...)))}} {
		wantRefused(t, lines, api.ErrTooMany)
	}
}

func TestNumber(t *testing.T) {
	lines := read(t, "# first", "", "  ", "wall   south  :", "  joint ( 5 ,10 )# mm", "", `  text  "a b","(" :`, "    x", "note=5")
	want := []api.Line{
		{Tokens: []api.Token{{Kind: api.TokWord, Text: "wall", At: 1}, {Kind: api.TokWord, Text: "south", At: 6}}, Heading: true, At: 1, Kids: []api.Line{
			{Tokens: []api.Token{{Kind: api.TokWord, Text: "joint", At: 3}, {Kind: api.TokSign, Text: "(", At: 9}, {Kind: api.TokNumber, N: 5, At: 10}, {Kind: api.TokSign, Text: ",", At: 11}, {Kind: api.TokNumber, N: 10, At: 13}, {Kind: api.TokSign, Text: ")", At: 15}}, At: 2},
			{Tokens: []api.Token{{Kind: api.TokWord, Text: "text", At: 3}, {Kind: api.TokText, Text: "a b", At: 8}, {Kind: api.TokSign, Text: ",", At: 13}, {Kind: api.TokText, Text: "(", At: 15}}, Heading: true, At: 3, Kids: []api.Line{{Tokens: []api.Token{{Kind: api.TokWord, Text: "x", At: 5}}, At: 4}}},
		}},
		{Tokens: []api.Token{{Kind: api.TokWord, Text: "note", At: 1}, {Kind: api.TokSign, Text: "=", At: 6}, {Kind: api.TokNumber, N: 5, At: 8}}, At: 5},
	}
	if numbered, e := printer.Number(lines); e != api.OK || show(numbered) != show(want) {
		t.Errorf("Number: %s, %d, not %s", show(numbered), e, show(want))
	}
	if numbered, e := printer.Number(nil); e != api.OK || len(numbered) != 0 {
		t.Errorf("Number of no lines: %s, %d", show(numbered), e)
	}
}

func TestSame(t *testing.T) {
	trees := [][]api.Line{
		nil, {{}}, {{Heading: true}}, {note(word("a"))}, {note(text("a"))}, {note(sign("a"))}, {note(number(0))}, {note(number(1))}, {note(word("a"), word("b"))}, {note(word("a")), note(word("b"))}, {head("a")}, {head("a", note(word("b")))}, {head("a"), note(word("b"))}, {head("a", head("b"))}, {note(api.Token{Kind: 9, N: -1})}, deep(7), deep(8), deep(2000), {{Kids: []api.Line{{}}}},
	}
	for i, a := range trees {
		for k, b := range trees {
			if same := printer.Same(a, b); same != (i == k) {
				t.Errorf("Same of %.200s and %.200s: %v", show(a), show(b), same)
			}
		}
	}
	if !printer.Same(read(t, "a :", "  b( c )"), read(t, "", "a:#", "  # x", "  b (c)  ")) || !printer.Same(nil, []api.Line{}) || printer.Same(read(t, "a: b"), read(t, "a :", "  b")) {
		t.Error("Same of sources with other blanks, and of empty lists")
	}
}

func TestRows(t *testing.T) {
	for source, want := range map[string][]string{
		"": nil, "\n\n": nil, "# c": nil, "   \n #": nil, "a": {"a"}, "a\n": {"a"}, "a\n\n\nb": {"a", "b"}, "a  :  # t\n\n  b ,c\n      \nd": {"a:", "  b, c", "d"}, "a::\n  \"x:\"   :": {"a ::", `  "x:":`}, "12,-5": {"12, -5"}, "(5)(6)": {"(5) (6)"},
		strings.Repeat("h:\n", 3) + strings.Repeat(" ", 1000): {"h:", "h:", "h:"}, strings.Repeat(" ", 999) + "#": nil, "a" + strings.Repeat(" ", 998) + "b": {"a b"},
	} {
		if rows, e := printer.Rows(source); e != api.OK || !slices.Equal(rows, want) {
			t.Errorf("Rows of %.100q: %.100s, %d, not %q", source, fmt.Sprintf("%q", rows), e, want)
		}
	}
	wide := strings.Repeat("w", 30)
	for source, want := range map[string]api.Errno{
		"note\n  stone a": api.ErrSyntax, " a": api.ErrSyntax, "  a": api.ErrSyntax, "a\n:": api.ErrSyntax, "a\n\"\"": api.ErrName, "1000000000000001": api.ErrRange, "a\r\n": api.ErrSyntax, strings.Repeat(" ", 14) + "a": api.ErrTooMany, strings.Repeat("a ", 65): api.ErrTooMany, strings.Repeat(" ", 1001): api.ErrTooMany,
		strings.Repeat("\n", api.MaxSource+1): api.ErrTooMany, strings.Repeat("?", api.MaxSource+1): api.ErrTooMany,
		// The line and the source are short enough, but not the canonical ones.
		strings.Repeat(wide+"=", 31) + wide: api.ErrTooMany, strings.Repeat("a=:\n", api.MaxSource/4): api.ErrTooMany,
	} {
		if rows, e := printer.Rows(source); e != want || len(rows) != 0 {
			t.Errorf("Rows of %.100q: %d rows, %d, not %d", source, len(rows), e, want)
		}
	}
	if rows, e := printer.Rows(strings.Repeat("\n", api.MaxSource)); e != api.OK || len(rows) != 0 {
		t.Errorf("Rows of empty lines: %d rows, %d", len(rows), e)
	}
	if rows, e := printer.Rows(strings.Repeat("(:\n", api.MaxSource/3)); e != api.OK || len(rows) != api.MaxSource/3 {
		t.Errorf("Rows of many headings: %d rows, %d", len(rows), e)
	}
}

// spoil changes all that a tree has.
func spoil(lines []api.Line) {
	for i := range lines {
		for k := range lines[i].Tokens {
			lines[i].Tokens[k] = word("spoilt")
		}
		spoil(lines[i].Kids)
		lines[i].At, lines[i].Heading = 77, !lines[i].Heading
	}
}

func TestMemoryOfTrees(t *testing.T) {
	twin := head("a", head("b"), note(number(1), number(2)))
	lines := []api.Line{twin, twin, note(word("c"))}
	before := show(lines)
	numbered, _ := printer.Number(lines)
	second := show(numbered[1:])
	spoil(numbered[:1])
	if show(lines) != before || show(numbered[1:]) != second {
		t.Errorf("Number shares memory: %s, %s", show(lines), show(numbered))
	}
	again, e := printer.Number(lines)
	if e != api.OK || show(again[1:]) != second || !reflect.DeepEqual(again[2], api.Line{Tokens: []api.Token{{Kind: api.TokWord, Text: "c", At: 1}}, At: 7}) {
		t.Errorf("Number: %s, %d", show(again), e)
	}
}
