package boring_test

import (
	"math"
	"math/rand"
	"reflect"
	"slices"
	"strings"
	"testing"

	"gangsaw/api"
	"gangsaw/boring"
	"gangsaw/parser"
)

// lineOf is the only line of a source of rows, with its kids.
func lineOf(t *testing.T, rows ...string) api.Line {
	t.Helper()
	lines, f := parser.Parse(strings.Join(rows, "\n"))
	if f != (api.Fault{}) || len(lines) != 1 {
		t.Fatalf("Parse of %q: %v", rows, f)
	}
	return lines[0]
}

func wantBoring(t *testing.T, l api.Line, want api.Boring) {
	t.Helper()
	if b, f := boring.Load(l); !same(b, want) || f != (api.Fault{}) {
		t.Errorf("Load of %v: %v, %v, not %v", l, b, f, want)
	}
}

func wantFault(t *testing.T, l api.Line, want api.Fault) {
	t.Helper()
	if b, f := boring.Load(l); !same(b, api.Boring{}) || f != want {
		t.Errorf("Load of %v: %v, %v, not %v", l, b, f, want)
	}
}

func TestLoad(t *testing.T) {
	wantBoring(t, lineOf(t, "boring b1 at 5 5:", "  sound 0 10", "  sound 10 20", "  flawed 25 30"), b1())
	wantBoring(t, lineOf(t, "boring b at -1000000 999999:"), api.Boring{Name: "b", At: at(-top, top-1)})
	wantBoring(t, lineOf(t, "boring at at 0 0:  # no word is taken", "", "  flawed -1000000 1000000"), api.Boring{Name: "at", Logs: logs(-top, top, flawed)})
	wantBoring(t, lineOf(t, "boring abcdefghijklmnopqrstuvwx at 999999 -1000000:", "  sound -1 0", "  flawed 0 1"), api.Boring{Name: "abcdefghijklmnopqrstuvwx", At: at(top-1, -top), Logs: logs(-1, 0, sound, 0, 1, flawed)})
}

func TestFaults(t *testing.T) {
	for _, c := range []struct {
		rows      string
		code      api.Errno
		line, col int
	}{
		// The boring's line.
		{"boring", api.ErrSyntax, 1, 1}, {"borings b at 1 2:", api.ErrSyntax, 1, 1}, {`"boring" b at 1 2:`, api.ErrSyntax, 1, 1}, {"boring:", api.ErrSyntax, 1, 1}, {"boring b:", api.ErrSyntax, 1, 8}, {"boring b at:", api.ErrSyntax, 1, 10}, {"boring b at 1:", api.ErrSyntax, 1, 13}, {"boring b at 1 2 3:", api.ErrSyntax, 1, 17}, {"boring b 1 2:", api.ErrSyntax, 1, 10}, {"boring b at x 2:", api.ErrSyntax, 1, 13}, {"boring b at 1 x:", api.ErrSyntax, 1, 15}, {"boring 5 at 1 2:", api.ErrSyntax, 1, 8}, {`boring "b" at 1 2:`, api.ErrSyntax, 1, 8}, {`boring b "at" 1 2:`, api.ErrSyntax, 1, 10}, {"boring b At 1 2:", api.ErrSyntax, 1, 10}, {"boring b at (1, 2):", api.ErrSyntax, 1, 13},
		{"boring B at 1 2:", api.ErrName, 1, 8}, {"boring B", api.ErrName, 1, 8}, {"boring abcdefghijklmnopqrstuvwxy at 1 2:", api.ErrName, 1, 8}, {"boring B at x", api.ErrName, 1, 8},
		{"boring b at 1000001 2:", api.ErrRange, 1, 13}, {"boring b at 1 -1000001:", api.ErrRange, 1, 15}, {"boring b at -1000001 1000001:", api.ErrRange, 1, 13}, {"boring b at 1000001 x:", api.ErrSyntax, 1, 21}, {"boring b at 1000001:", api.ErrSyntax, 1, 13}, {"boring b at 1000001 2 3:", api.ErrSyntax, 1, 23}, {"boring b at 1000000000000000 2", api.ErrRange, 1, 13},
		{"boring b at 1 2", api.ErrSyntax, 1, 1}, {"|boring b at 1 1000001", api.ErrRange, 2, 15}, {"|boring b at 1 2", api.ErrSyntax, 2, 1}, {"boring b at 1000000 2", api.ErrSyntax, 1, 1},
		// The words of kids, and headings among them.
		{"boring b at 1 2:|  unseen 1 2", api.ErrSyntax, 2, 3}, {"boring b at 1 2:|  Sound 1 2", api.ErrSyntax, 2, 3}, {"boring b at 1 2:|  sounds 1 2", api.ErrSyntax, 2, 3}, {"boring b at 1 2:|  clash 1 2", api.ErrSyntax, 2, 3}, {`boring b at 1 2:|  "sound" 1 2`, api.ErrSyntax, 2, 3}, {"boring b at 1 2:|  1 2", api.ErrSyntax, 2, 3}, {"boring b at 1 2:|  boring c at 1 2:", api.ErrSyntax, 2, 3}, {"boring b at 1 2:|  sound 1 2:", api.ErrSyntax, 2, 3}, {"boring b at 1 2:|  sound 1 2:|    sound 1 2", api.ErrSyntax, 2, 3}, {"boring b at 1 2:|  flawed x:", api.ErrSyntax, 2, 3}, {"boring b at 1 2:|  flawed 1 1000001:", api.ErrSyntax, 2, 3},
		// Their tokens.
		{"boring b at 1 2:|  sound", api.ErrSyntax, 2, 3}, {"boring b at 1 2:|  sound 1", api.ErrSyntax, 2, 9}, {"boring b at 1 2:|  sound 1 2 3", api.ErrSyntax, 2, 13}, {"boring b at 1 2:|  sound x 2", api.ErrSyntax, 2, 9}, {"boring b at 1 2:|  sound 1 x", api.ErrSyntax, 2, 11}, {`boring b at 1 2:|  flawed "1" 2`, api.ErrSyntax, 2, 10}, {"boring b at 1 2:|  flawed 1, 2", api.ErrSyntax, 2, 11},
		{"boring b at 1 2:|  sound 1000001 2", api.ErrRange, 2, 9}, {"boring b at 1 2:|  sound 1 1000001", api.ErrRange, 2, 11}, {"boring b at 1 2:|  flawed -1000001 1000001", api.ErrRange, 2, 10}, {"boring b at 1 2:|  flawed -1000001 x", api.ErrSyntax, 2, 19}, {"boring b at 1 2:|  flawed -1000001", api.ErrSyntax, 2, 10},
		// The first of several.
		{"boring b at 1 2:|  sound 1 2|  sound 2 x|  sound 3", api.ErrSyntax, 3, 11}, {"boring b at 1 2:|  sound 1 1000001|  unseen", api.ErrRange, 2, 11}, {"boring b at 1 2:|  unseen|  sound 1 1000001", api.ErrSyntax, 2, 3}, {"boring b at 1 2|", api.ErrSyntax, 1, 1}, {"boring b at 1000000 2:|  sound 3 x", api.ErrSyntax, 2, 11},
		// The errors of the formed boring.
		{"boring b at 1 2:|  sound 2 2", api.ErrInvalid, 1, 1}, {"|boring b at 1 2:|  sound 2 1", api.ErrInvalid, 2, 1}, {"boring b at 1000000 2:", api.ErrRange, 1, 1}, {"boring b at 2 1000000:|  sound 1 2", api.ErrRange, 1, 1}, {"boring b at 1000000 2:|  sound 2 2", api.ErrInvalid, 1, 1}, {"boring b at 1000000 2:|  sound 5 9|  sound 4 6", api.ErrRange, 1, 1}, {"boring b at 1 2:|  sound 5 9|  sound 8 10", api.ErrOverlap, 1, 1}, {"boring b at 1 2:|  sound 5 9|  flawed 1 5", api.ErrOverlap, 1, 1}, {"boring b at 1 2:|  sound 5 9|  flawed 5 9", api.ErrOverlap, 1, 1},
		{"boring b at 1 2:" + strings.Repeat("|  sound 2 1", api.MaxLogs), api.ErrInvalid, 1, 1}, {"boring b at 1 2:" + strings.Repeat("|  sound 1 2", api.MaxLogs), api.ErrOverlap, 1, 1}, {"boring b at 1 2:" + strings.Repeat("|  sound 2 1", api.MaxLogs+1), api.ErrTooMany, 1, 1}, {"boring b at 1 2:" + strings.Repeat("|  sound 1 2", 3000), api.ErrTooMany, 1, 1}, {"boring b at 1 2:" + strings.Repeat("|  sound 2 1", api.MaxLogs+1) + "|  sound", api.ErrSyntax, api.MaxLogs + 3, 3},
	} {
		wantFault(t, lineOf(t, strings.Split(c.rows, "|")...), api.Fault{Code: c.code, Line: c.line, Col: c.col})
	}
}

// TestLinesThatWereNotParsed has lines without tokens, with odd tokens, and kids of lines that are no headings.
func TestLinesThatWereNotParsed(t *testing.T) {
	word := func(text string, at int) api.Token { return api.Token{Kind: api.TokWord, Text: text, At: at} }
	number := func(n int64, at int) api.Token { return api.Token{Kind: api.TokNumber, N: n, At: at} }
	row := func(tokens ...api.Token) api.Line { return api.Line{Tokens: tokens, At: 70} }
	head := func(kids ...api.Line) api.Line {
		return api.Line{Tokens: []api.Token{word("boring", 2), word("b", 4), word("at", 6), number(1, 8), number(2, 10)}, Heading: true, At: -3, Kids: kids}
	}
	plain := head(row(word("sound", 1)))
	plain.Heading = false
	odd := head()
	odd.Tokens[3] = number(math.MinInt64, 8)
	none := head()
	none.Tokens[1].Text = ""
	for _, c := range []struct {
		l    api.Line
		want api.Fault
	}{
		{api.Line{}, api.Fault{Code: api.ErrSyntax, Col: 1}}, {api.Line{At: 5, Heading: true}, api.Fault{Code: api.ErrSyntax, Line: 5, Col: 1}}, {plain, api.Fault{Code: api.ErrSyntax, Line: -3, Col: 2}}, {odd, api.Fault{Code: api.ErrRange, Line: -3, Col: 8}}, {none, api.Fault{Code: api.ErrName, Line: -3, Col: 4}},
		{head(api.Line{At: 4}), api.Fault{Code: api.ErrSyntax, Line: 4, Col: 1}}, {head(api.Line{At: 4, Heading: true, Kids: []api.Line{{}}}), api.Fault{Code: api.ErrSyntax, Line: 4, Col: 1}}, {head(row(word("", 6), number(1, 7), number(2, 8))), api.Fault{Code: api.ErrSyntax, Line: 70, Col: 6}}, {head(row(api.Token{Kind: api.TokSign, Text: "sound", At: 6}, number(1, 7), number(2, 8))), api.Fault{Code: api.ErrSyntax, Line: 70, Col: 6}},
		{head(api.Line{At: 4, Tokens: []api.Token{word("sound", 5), number(1, 6), number(2, 7)}, Kids: []api.Line{{}}}), api.Fault{Code: api.ErrSyntax, Line: 4, Col: 5}}, {head(row(word("flawed", 6), number(1, 7), number(math.MaxInt64, 8))), api.Fault{Code: api.ErrRange, Line: 70, Col: 8}}, {head(row(word("flawed", 6), number(1, 7), api.Token{Kind: -2, N: 2, At: 8})), api.Fault{Code: api.ErrSyntax, Line: 70, Col: 8}},
	} {
		wantFault(t, c.l, c.want)
	}
	wantBoring(t, head(row(word("sound", 6), number(1, 7), number(2, 8))), api.Boring{Name: "b", At: at(1, 2), Logs: logs(1, 2, sound)})
}

func TestLine(t *testing.T) {
	l, e := boring.Line(b1())
	if want := lineOf(t, "boring b1 at 5 5:", "  sound 0 10", "  sound 10 20", "  flawed 25 30"); e != api.OK || !parser.Same([]api.Line{l}, []api.Line{want}) {
		t.Errorf("Line: %v, %d, not %v", l, e, want)
	}
	random := rand.New(rand.NewSource(5))
	list := []api.Boring{b1(), full(), {Name: "a"}, {Name: "sound", At: at(-top, -top), Logs: logs(-top, 1-top, flawed, top-1, top, sound)}}
	for range 2000 {
		b, _ := someBoring(random, "n_1", at(random.Intn(2*top)-top, random.Intn(2*top)-top))
		list = append(list, b)
	}
	for _, b := range list {
		l, e := boring.Line(b)
		if e != api.OK || parser.Check([]api.Line{l}) != api.OK || numbered(l) {
			t.Errorf("Line of %v: %v, %d", b, l, e)
		}
		wantBoring(t, l, b)
	}
}

// numbered reports whether a line, one of its kids or a token has a number.
func numbered(l api.Line) bool {
	return l.At != 0 || slices.ContainsFunc(l.Tokens, func(t api.Token) bool { return t.At != 0 }) || slices.ContainsFunc(l.Kids, numbered)
}

// slowFault finds the first fault of a line, apart from those of the formed boring.
func slowFault(l api.Line) api.Fault {
	words := func(l api.Line, pattern string) api.Fault {
		for i, form := range strings.Fields(pattern) {
			if i >= len(l.Tokens) {
				return parser.Bad(api.ErrSyntax, l, i)
			}
			t := l.Tokens[i]
			switch {
			case form == "NUMBER" && t.Kind != api.TokNumber, form != "NUMBER" && t.Kind == api.TokNumber, t.Kind == api.TokText, form != "NUMBER" && form != "NAME" && t.Text != form, form == "NAME" && t.Kind != api.TokWord:
				return parser.Bad(api.ErrSyntax, l, i)
			case form == "NAME" && strings.ToLower(t.Text) != t.Text:
				return parser.Bad(api.ErrName, l, i)
			}
		}
		if n := len(strings.Fields(pattern)); len(l.Tokens) > n {
			return parser.Bad(api.ErrSyntax, l, n)
		}
		for i, t := range l.Tokens {
			if t.Kind == api.TokNumber && (t.N > top || t.N < -top) {
				return parser.Bad(api.ErrRange, l, i)
			}
		}
		return api.Fault{}
	}
	if f := words(l, "boring NAME at NUMBER NUMBER"); f.Code != api.OK {
		return f
	}
	if !l.Heading {
		return parser.Bad(api.ErrSyntax, l, 0)
	}
	for _, kid := range l.Kids {
		word := parser.Word(kid)
		if word != "sound" && word != "flawed" || kid.Heading || len(kid.Kids) > 0 {
			return parser.Bad(api.ErrSyntax, kid, 0)
		}
		if f := words(kid, word+" NUMBER NUMBER"); f.Code != api.OK {
			return f
		}
	}
	return api.Fault{}
}

// mutate changes one thing of a boring's line.
func mutate(random *rand.Rand, l *api.Line) {
	if len(l.Kids) > 0 && random.Intn(3) > 0 {
		i := random.Intn(len(l.Kids))
		if random.Intn(5) == 0 {
			l.Kids[i].Kids = []api.Line{l.Kids[0]}
		}
		mutate(random, &l.Kids[i])
		return
	}
	words := strings.Fields("boring at sound flawed unseen name Name")
	other := []api.Token{{Kind: api.TokWord, Text: words[random.Intn(len(words))]}, {Kind: api.TokNumber, N: []int64{0, 1, -5, top, top + 1, -top, -top - 1}[random.Intn(7)]}, {Kind: api.TokText, Text: words[random.Intn(len(words))]}, {Kind: api.TokSign, Text: ","}}[random.Intn(4)]
	i := random.Intn(len(l.Tokens) + 1)
	switch random.Intn(5) {
	case 0:
		l.Heading = !l.Heading
	case 1:
		l.Tokens = slices.Insert(l.Tokens, i, other)
	case 2:
		if i < len(l.Tokens) {
			l.Tokens = slices.Delete(l.Tokens, i, i+1)
		}
	default:
		if i < len(l.Tokens) {
			l.Tokens[i] = other
		}
	}
}

// number gives all lines and tokens numbers.
func number(l *api.Line, next *int) {
	*next++
	l.At = *next
	for i := range l.Tokens {
		*next++
		l.Tokens[i].At = *next
	}
	for i := range l.Kids {
		number(&l.Kids[i], next)
	}
}

func TestFaultsAgainstSlowOnes(t *testing.T) {
	random := rand.New(rand.NewSource(8))
	codes := map[api.Errno]int{}
	for range 40000 {
		b, _ := someBoring(random, "b", at(random.Intn(99), random.Intn(99)))
		b.Logs = b.Logs[:min(len(b.Logs), random.Intn(6))]
		l, _ := boring.Line(b)
		for range random.Intn(3) {
			mutate(random, &l)
		}
		next := 0
		number(&l, &next)
		b, f := boring.Load(l)
		codes[f.Code]++
		want := slowFault(l)
		if want == (api.Fault{}) && f != want {
			// What is left are the errors of the formed boring, which have their own tests.
			want = parser.Bad(f.Code, l, 0)
		}
		if f != want || f.Code != api.OK && !reflect.DeepEqual(b, api.Boring{}) || f.Code == api.OK && !parser.Same([]api.Line{l}, linesOf(b)) {
			t.Errorf("Load of %v: %v, %v, not %v", l, b, f, want)
		}
	}
	for _, code := range []api.Errno{api.OK, api.ErrSyntax, api.ErrName, api.ErrRange, api.ErrInvalid, api.ErrOverlap} {
		if codes[code] < 20 {
			t.Errorf("only %d lines have %d", codes[code], code)
		}
	}
}

func linesOf(b api.Boring) []api.Line {
	l, _ := boring.Line(b)
	return []api.Line{l}
}
