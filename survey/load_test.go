package survey_test

import (
	"fmt"
	"math"
	"math/rand"
	"reflect"
	"slices"
	"strings"
	"testing"

	"gangsaw/api"
	"gangsaw/parser"
	"gangsaw/survey"
)

// lineOf is the only line of a source of rows, with its kids.
func lineOf(t *testing.T, rows ...string) api.Line {
	t.Helper()
	lines, f := parser.Parse(strings.Join(rows, "\n"))
	if f != (api.Fault{}) || len(lines) != 1 {
		t.Fatalf("Parse of %q: %v", rows, f)
	}
	return lines[0]
}

func wantSurvey(t *testing.T, l api.Line, want api.Survey) {
	t.Helper()
	if s, f := survey.Load(l); !survey.Equal(s, want) || f != (api.Fault{}) {
		t.Errorf("Load of %v: %v, %v, not %v", l, s, f, want)
	}
}

func wantFault(t *testing.T, l api.Line, want api.Fault) {
	t.Helper()
	if s, f := survey.Load(l); !survey.Equal(s, api.Survey{}) || f != want {
		t.Errorf("Load of %v: %v, %v, not %v", l, s, f, want)
	}
}

// richRows is the source of the survey rich, one of its kids in each row, and then the corners of the last flaw.
func richRows() []string {
	rows := []string{"survey:", "  pit -10 0 -20 110 90 80", "  open east south", "  bed upper 10", "  bed lower 30", "  bed b3 31", "  joint j1 x 30 0 60", "  joint j2 y 30 -20 80", "  joint k y 40 5 6",
		"  flaw f1 0 5:", "    corner 0 0", "    corner 10 0", "    corner 0 10", "  flaw f2 -20 80:", "    corner 20 20", "    corner 30 20", "    corner 30 30", "    corner 20 30", "  flaw g 7 8:"}
	for x := range 9 {
		rows = append(rows, fmt.Sprintf("    corner %d %d", x, x*x))
	}
	return rows
}

func TestLoad(t *testing.T) {
	wantSurvey(t, lineOf(t, "survey:", "  pit 0 0 0 100 100 100", "  bed b 50", "  joint j x 30 0 60"), example())
	wantSurvey(t, lineOf(t, richRows()...), rich())
	wantSurvey(t, lineOf(t, "survey:  # of today", "", "  pit 0 0 0 1 1 1"), api.Survey{Pit: bx(0, 0, 0, 1, 1, 1)})
	wantSurvey(t, lineOf(t, "survey:", "  open west", "  pit -1000000 -1000000 -1000000 1000000 1000000 1000000"), api.Survey{Pit: bx(-top, -top, -top, top, top, top), Open: [4]bool{false, true}})
	for i, sides := range []string{"east", "west", "north", "south", "south north west east", "north east", "west south"} {
		want := api.Survey{Pit: bx(0, 0, 0, 1, 1, 1)}
		for side, word := range []string{"east", "west", "north", "south"} {
			want.Open[side] = strings.Contains(sides, word)
		}
		if i < 4 && !want.Open[i] {
			t.Errorf("the side %d is not %s", i, sides)
		}
		wantSurvey(t, lineOf(t, "survey:", "  pit 0 0 0 1 1 1", "  open "+sides), want)
	}
	// The names may be words of a survey.
	wantSurvey(t, lineOf(t, "survey:", "  pit 0 0 0 9 9 9", "  bed bed 5", "  joint x x 5 0 9", "  joint pit y 5 0 9", "  bed open 4"), api.Survey{
		Pit: bx(0, 0, 0, 9, 9, 9), Beds: []api.Bed{{Name: "open", Z: 4}, {Name: "bed", Z: 5}}, Joints: []api.Joint{{Name: "pit", Axis: api.AxisY, At: 5, Hi: 9}, {Name: "x", At: 5, Hi: 9}},
	})
}

// TestOrderOfKids has all orders of six kids.
func TestOrderOfKids(t *testing.T) {
	l := lineOf(t, "survey:", "  pit 0 0 0 9 9 9", "  open north", "  bed b 5", "  bed a 6", "  joint k x 5 0 9", "  joint j y 5 0 9", "  flaw f 0 9:", "    corner 0 0", "    corner 9 0", "    corner 0 9", "  flaw e 0 9:", "    corner 0 9", "    corner 0 0", "    corner 9 0")
	want := api.Survey{
		Pit: bx(0, 0, 0, 9, 9, 9), Open: [4]bool{false, false, true}, Beds: []api.Bed{{Name: "b", Z: 5}, {Name: "a", Z: 6}}, Joints: []api.Joint{{Name: "j", Axis: api.AxisY, At: 5, Hi: 9}, {Name: "k", At: 5, Hi: 9}},
		Flaws: []api.Flaw{{Name: "e", Prism: api.Prism{Base: poly(0, 9, 0, 0, 9, 0), Hi: 9}}, {Name: "f", Prism: api.Prism{Base: poly(0, 0, 9, 0, 0, 9), Hi: 9}}},
	}
	before := slices.Clone(l.Kids)
	var permute func(n int)
	permute = func(n int) {
		if n == 0 {
			wantSurvey(t, l, want)
			return
		}
		for i := range n {
			l.Kids[i], l.Kids[n-1] = l.Kids[n-1], l.Kids[i]
			permute(n - 1)
			l.Kids[i], l.Kids[n-1] = l.Kids[n-1], l.Kids[i]
		}
	}
	permute(len(l.Kids))
	if !reflect.DeepEqual(before, l.Kids) {
		t.Errorf("Load changes its argument to %v", l)
	}
	// But the order of corners matters.
	slices.Reverse(l.Kids[6].Kids)
	wantFault(t, l, api.Fault{Code: api.ErrConflict, Line: 1, Col: 1})
}

func TestFaults(t *testing.T) {
	const pit = "  pit 0 0 0 100 100 100"
	for _, c := range []struct {
		rows      string
		code      api.Errno
		line, col int
	}{
		// The examples.
		{"survey:|  pit 0 0 0 100 100 100|  joint j z 30 0 60", api.ErrSyntax, 3, 11}, {"survey:|  pit 0 0 0 100 100 100|  joint j x 30 0 600", api.ErrOutside, 1, 1},
		// The survey's line.
		{"survey", api.ErrSyntax, 1, 1}, {"surveys:", api.ErrSyntax, 1, 1}, {"survey a:|" + pit, api.ErrSyntax, 1, 1}, {"survey survey:|" + pit, api.ErrSyntax, 1, 1}, {"a survey:", api.ErrSyntax, 1, 1}, {`"survey":|` + pit, api.ErrSyntax, 1, 1}, {"Survey:|" + pit, api.ErrSyntax, 1, 1}, {"5:", api.ErrSyntax, 1, 1}, {"|# first|survey 5:|  bad", api.ErrSyntax, 3, 1},
		// No pit.
		{"survey:", api.ErrNone, 1, 1}, {"survey:|  open east", api.ErrNone, 1, 1}, {"|survey:|  bed b 5|  bed b 5", api.ErrNone, 2, 1},
		// The words of kids.
		{"survey:|  pits 0 0 0 1 1 1", api.ErrSyntax, 2, 3}, {"survey:|  Pit 0 0 0 1 1 1", api.ErrSyntax, 2, 3}, {"survey:|" + pit + "|  corner 1 1", api.ErrSyntax, 3, 3}, {"survey:|  survey:|" + "    pit 0 0 0 1 1 1", api.ErrSyntax, 2, 3}, {"survey:|  5 pit", api.ErrSyntax, 2, 3}, {`survey:|  "pit" 0 0 0 1 1 1`, api.ErrSyntax, 2, 3}, {"survey:|  = 5", api.ErrSyntax, 2, 3}, {"survey:|  x:|    pit", api.ErrSyntax, 2, 3},
		// Twice.
		{"survey:|" + pit + "|" + pit, api.ErrDuplicate, 3, 3}, {"survey:|" + pit + "|  pit bad", api.ErrDuplicate, 3, 3}, {"survey:|" + pit + "|  pit:", api.ErrDuplicate, 3, 3}, {"survey:|  open east|" + pit + "|  open west", api.ErrDuplicate, 4, 3}, {"survey:|  open east|  open", api.ErrDuplicate, 3, 3}, {"survey:|  open east|  bed b 5|  open east east", api.ErrDuplicate, 4, 3}, {"survey:|  pit bad|" + pit, api.ErrSyntax, 2, 7},
		// Lacking tokens.
		{"survey:|  pit", api.ErrSyntax, 2, 3}, {"survey:|  pit 0 0 0 10 10", api.ErrSyntax, 2, 16}, {"survey:|  open", api.ErrSyntax, 2, 3}, {"survey:|  bed", api.ErrSyntax, 2, 3}, {"survey:|  bed  b", api.ErrSyntax, 2, 8}, {"survey:|  joint", api.ErrSyntax, 2, 3}, {"survey:|  joint j", api.ErrSyntax, 2, 9}, {"survey:|  joint j y", api.ErrSyntax, 2, 11}, {"survey:|  joint j y 4", api.ErrSyntax, 2, 13}, {"survey:|  joint j y 4 5", api.ErrSyntax, 2, 15}, {"survey:|  flaw:", api.ErrSyntax, 2, 3}, {"survey:|  flaw f:", api.ErrSyntax, 2, 8}, {"survey:|  flaw f 4:", api.ErrSyntax, 2, 10}, {"survey:|  flaw f 4 5:|    corner", api.ErrSyntax, 3, 5}, {"survey:|  flaw f 4 5:|    corner 77", api.ErrSyntax, 3, 12},
		// Superfluous tokens.
		{"survey:|  pit 0 0 0 1 1 1 1", api.ErrSyntax, 2, 19}, {"survey:|  bed b 5 x", api.ErrSyntax, 2, 11}, {"survey:|  joint j x 1 2 3 4 5", api.ErrSyntax, 2, 19}, {"survey:|  flaw f 1 2 3:", api.ErrSyntax, 2, 14}, {"survey:|  flaw f 1 2:|    corner 1 1 1", api.ErrSyntax, 3, 16}, {"survey:|  bed b 5 5000000", api.ErrSyntax, 2, 11}, {"survey:|  open east 5", api.ErrSyntax, 2, 13}, {`survey:|  open east "west"`, api.ErrSyntax, 2, 13},
		// Tokens of other forms.
		{"survey:|  pit a 0 0 1 1 1", api.ErrSyntax, 2, 7}, {`survey:|  pit 0 0 0 1 1 "1"`, api.ErrSyntax, 2, 17}, {"survey:|  open up", api.ErrSyntax, 2, 8}, {"survey:|  open East", api.ErrSyntax, 2, 8}, {"survey:|  open east, west", api.ErrSyntax, 2, 12}, {"survey:|  bed 5 b", api.ErrSyntax, 2, 7}, {`survey:|  bed "b" 5`, api.ErrSyntax, 2, 7}, {"survey:|  bed b c", api.ErrSyntax, 2, 9}, {"survey:|  joint 5 x 1 2 3", api.ErrSyntax, 2, 9}, {"survey:|  joint j 5 1 2 3", api.ErrSyntax, 2, 11}, {"survey:|  joint j X 1 2 3", api.ErrSyntax, 2, 11}, {`survey:|  joint j "x" 1 2 3`, api.ErrSyntax, 2, 11}, {"survey:|  joint j xy 1 2 3", api.ErrSyntax, 2, 11}, {"survey:|  joint j x y 2 3", api.ErrSyntax, 2, 13}, {"survey:|  joint j x 1 = 3", api.ErrSyntax, 2, 15}, {"survey:|  flaw = 1 2:", api.ErrSyntax, 2, 8}, {"survey:|  flaw f x 2:", api.ErrSyntax, 2, 10}, {"survey:|  flaw f 1 2:|    corner x 1", api.ErrSyntax, 3, 12}, {"survey:|  flaw f 1 2:|    corner 1 x", api.ErrSyntax, 3, 14},
		// Names.
		{"survey:|  bed B 5", api.ErrName, 2, 7}, {"survey:|  bed B x", api.ErrName, 2, 7}, {"survey:|  bed B", api.ErrName, 2, 7}, {"survey:|  joint bJ z 1 2 3", api.ErrName, 2, 9}, {"survey:|  flaw fF:", api.ErrName, 2, 8}, {"survey:|  flaw abcdefghijklmnopqrstuvwxy 1 2:", api.ErrName, 2, 8}, {"survey:|  bed abcdefghijklmnopqrstuvwxy 5", api.ErrName, 2, 7},
		// Numbers.
		{"survey:|  pit -1000001 0 0 1 1 1", api.ErrRange, 2, 7}, {"survey:|  pit 0 0 0 1 1 1000001", api.ErrRange, 2, 17}, {"survey:|  pit 0 0 0 1 1 1000000000000000", api.ErrRange, 2, 17}, {"survey:|  bed b 1000001", api.ErrRange, 2, 9}, {"survey:|  bed b -1000001 x", api.ErrRange, 2, 9}, {"survey:|  joint j x 1000001 2 x", api.ErrRange, 2, 13}, {"survey:|  joint j x 1 -1000000000000000", api.ErrRange, 2, 15}, {"survey:|  joint j x 1 2 1000001", api.ErrRange, 2, 17}, {"survey:|  flaw f -1000001 2:", api.ErrRange, 2, 10}, {"survey:|  flaw f 1 1000001", api.ErrRange, 2, 12}, {"survey:|  flaw f 1 2:|    corner 1000001 0", api.ErrRange, 3, 12}, {"survey:|  flaw f 1 2:|    corner 0 -1000001", api.ErrRange, 3, 14}, {"survey:|  bed b 1000000", api.ErrNone, 1, 1}, {"survey:|  joint j x -1000000 1000000 -1000000", api.ErrNone, 1, 1}, {"survey:|  flaw f 1000000 -1000000:|    corner 1000000 -1000000", api.ErrNone, 1, 1},
		// Sides twice.
		{"survey:|  open east east", api.ErrDuplicate, 2, 13}, {"survey:|  open east west north south west up", api.ErrDuplicate, 2, 30}, {"survey:|  open east up east", api.ErrSyntax, 2, 13}, {"survey:|  open south north south 5", api.ErrDuplicate, 2, 20},
		// Headings and lines that are none.
		{"survey:|  pit 0 0 0 1 1 1:", api.ErrSyntax, 2, 3}, {"survey:|  pit 0 0 0 1 1 1:|    bed b 0", api.ErrSyntax, 2, 3}, {"survey:|  open east:", api.ErrSyntax, 2, 3}, {"survey:|  bed b 5:", api.ErrSyntax, 2, 3}, {"survey:|  bed b 5:|    corner 1 1", api.ErrSyntax, 2, 3}, {"survey:|  joint j x 1 2 3:", api.ErrSyntax, 2, 3}, {"survey:|  flaw f 1 2", api.ErrSyntax, 2, 3}, {"survey:|  flaw f 1 2:|    corner 1 1:", api.ErrSyntax, 3, 5}, {"survey:|  flaw f 1 2:|    corner 1 1:|      corner 1 1", api.ErrSyntax, 3, 5}, {"survey:|  bed b 5 5:", api.ErrSyntax, 2, 11}, {"survey:|  bed B 5:", api.ErrName, 2, 7}, {"survey:|  flaw F 1 2", api.ErrName, 2, 8}, {"survey:|  flaw f 1", api.ErrSyntax, 2, 10},
		// Kids of flaws.
		{"survey:|  flaw f 1 2:|    corners 1 1", api.ErrSyntax, 3, 5}, {"survey:|  flaw f 1 2:|    bed b 5", api.ErrSyntax, 3, 5}, {"survey:|  flaw f 1 2:|    5 5", api.ErrSyntax, 3, 5}, {`survey:|  flaw f 1 2:|    "corner" 5 5`, api.ErrSyntax, 3, 5}, {"survey:|  flaw f 1 2:|    corner 1 1|    corner 1 1|    corner 1 1|    corner", api.ErrSyntax, 6, 5},
		// The first of several.
		{"survey:|  bed B 5|  bed c x|" + pit, api.ErrName, 2, 7}, {"survey:|  bed c x|  bed B 5", api.ErrSyntax, 2, 9}, {"survey:|  flaw f 1 2:|    corner 1|  bed B 5", api.ErrSyntax, 3, 12}, {"survey:|  bed B 5|  flaw f 1 2:|    corner 1", api.ErrName, 2, 7}, {"survey:|  open east east|" + pit + "|  joint B", api.ErrDuplicate, 2, 13}, {"survey:|  bed b 1000001|  open|" + pit, api.ErrRange, 2, 9}, {"survey:|  flaw f 1 2|  joint", api.ErrSyntax, 2, 3}, {"survey:|  bed b 5:|  bed B 5", api.ErrSyntax, 2, 3},
		// What Check says.
		{"survey:|  pit 0 0 0 0 1 1", api.ErrInvalid, 1, 1}, {"# the survey|survey:|  pit 0 0 0 -5 1 1", api.ErrInvalid, 2, 1}, {"survey:|" + pit + "|  bed b 101", api.ErrOutside, 1, 1}, {"survey:|" + pit + "|  bed a 5|  bed b 5", api.ErrDuplicate, 1, 1}, {"survey:|" + pit + "|  bed a 5|  bed a 6", api.ErrDuplicate, 1, 1}, {"survey:|" + pit + "|  joint a x 5 0 1|  joint a y 6 0 1", api.ErrDuplicate, 1, 1}, {"survey:|" + pit + "|  joint a x 5 0 1|  bed a 5", api.ErrDuplicate, 1, 1}, {"survey:|" + pit + "|  joint a x 5 1 1", api.ErrInvalid, 1, 1}, {"survey:|" + pit + "|  joint a x 101 0 1", api.ErrOutside, 1, 1},
		{"survey:|" + pit + "|  flaw f 0 1:", api.ErrInvalid, 1, 1}, {"survey:|" + pit + "|  flaw f 1 1:|    corner 0 0|    corner 1 0|    corner 0 1", api.ErrInvalid, 1, 1}, {"survey:|" + pit + "|  flaw f 0 1:|    corner 0 0|    corner 0 1|    corner 1 0", api.ErrConflict, 1, 1}, {"survey:|" + pit + "|  flaw f 0 1:|    corner 0 0|    corner 0 0|    corner 1 0", api.ErrDuplicate, 1, 1}, {"survey:|" + pit + "|  flaw f 0 101:|    corner 0 0|    corner 1 0|    corner 0 1", api.ErrOutside, 1, 1}, {"survey:|" + pit + "|  flaw f 0 1:|    corner 0 0|    corner 101 0|    corner 0 1", api.ErrOutside, 1, 1},
		// Of two flaws the one with the lesser name counts, though the other one comes before it.
		{"survey:|" + pit + "|  flaw g 0 1:|    corner 0 0|    corner 0 0|    corner 1 0|  flaw f 0 1:|    corner 0 0", api.ErrInvalid, 1, 1}, {"survey:|" + pit + "|  flaw g 0 1:|    corner 0 0|  flaw f 0 1:|    corner 0 0|    corner 0 0|    corner 1 0", api.ErrDuplicate, 1, 1},
		// And of two with the same name the one that comes before.
		{"survey:|" + pit + "|  flaw f 0 1:|    corner 0 0|    corner 0 0|    corner 1 0|  flaw f 0 1:|    corner 0 0", api.ErrDuplicate, 1, 1}, {"survey:|" + pit + "|  flaw f 0 1:|    corner 0 0|  flaw f 0 1:|    corner 0 0|    corner 0 0|    corner 1 0", api.ErrInvalid, 1, 1},
	} {
		wantFault(t, lineOf(t, strings.Split(c.rows, "|")...), api.Fault{Code: c.code, Line: c.line, Col: c.col})
	}
}

// TestManyKids has as many kids as possible, in disorder, and one more of each.
func TestManyKids(t *testing.T) {
	l, e := survey.Line(full())
	if e != api.OK {
		t.Fatalf("Line: %d", e)
	}
	random := rand.New(rand.NewSource(3))
	random.Shuffle(len(l.Kids), func(i, k int) { l.Kids[i], l.Kids[k] = l.Kids[k], l.Kids[i] })
	wantSurvey(t, l, full())
	for _, word := range []string{"bed", "joint", "flaw"} {
		more := parser.Pick(l.Kids, word)[0]
		l.At, l.Tokens[0].At = 12, 34
		fault := api.Fault{Code: api.ErrTooMany, Line: 12, Col: 34}
		wantFault(t, api.Line{Tokens: l.Tokens, Heading: true, At: 12, Kids: append(slices.Clone(l.Kids), more)}, fault)
		wantFault(t, api.Line{Tokens: l.Tokens, Heading: true, At: 12, Kids: append(slices.Clone(l.Kids), slices.Repeat([]api.Line{more}, 100000)...)}, fault)
	}
}

// TestFlawsWithOneName has so many flaws, in disorder, that only a stable order keeps the first one of two bad ones with one name in front.
func TestFlawsWithOneName(t *testing.T) {
	s := full()
	for i := range s.Flaws {
		s.Flaws[i].Prism.Base = bowl(3)
	}
	l, _ := survey.Line(s)
	flaws := l.Kids[len(l.Kids)-api.MaxFlaws:]
	good := flaws[0].Kids
	few, equal := good[:1], append(slices.Clone(good), good[2])
	random := rand.New(rand.NewSource(9))
	for range 500 {
		for i := range flaws {
			flaws[i].Tokens[1].Text = []string{"e", "f", "g"}[random.Intn(3)]
		}
		i, k := random.Intn(len(flaws)), random.Intn(len(flaws))
		if i == k {
			continue
		}
		flaws[i].Tokens[1].Text, flaws[k].Tokens[1].Text = "f", "f"
		flaws[i].Kids, flaws[k].Kids = few, equal
		want := api.ErrInvalid
		if k < i {
			want = api.ErrDuplicate
		}
		wantFault(t, l, api.Fault{Code: want})
		flaws[i].Kids, flaws[k].Kids = good, good
	}
}

// TestLinesThatWereNotParsed has lines without tokens, with odd tokens, and kids of lines that are no headings.
func TestLinesThatWereNotParsed(t *testing.T) {
	word := func(text string, at int) api.Token { return api.Token{Kind: api.TokWord, Text: text, At: at} }
	number := func(n int64, at int) api.Token { return api.Token{Kind: api.TokNumber, N: n, At: at} }
	head := func(kids ...api.Line) api.Line {
		return api.Line{Tokens: []api.Token{word("survey", 9)}, Heading: true, At: -3, Kids: kids}
	}
	row := func(tokens ...api.Token) api.Line { return api.Line{Tokens: tokens, At: 70} }
	withKids := func(l api.Line, kids ...api.Line) api.Line {
		l.Kids = kids
		return l
	}
	heading := func(l api.Line) api.Line {
		l.Heading = true
		return l
	}
	pit := row(word("pit", 1), number(0, 2), number(0, 3), number(0, 4), number(1, 5), number(1, 6), number(1, 7))
	flaw := row(word("flaw", 1), word("f", 2), number(0, 3), number(1, 4))
	for _, c := range []struct {
		l    api.Line
		want api.Fault
	}{
		{api.Line{}, api.Fault{Code: api.ErrSyntax, Col: 1}}, {api.Line{Heading: true, At: 5}, api.Fault{Code: api.ErrSyntax, Line: 5, Col: 1}}, {heading(row(api.Token{Kind: api.TokSign, Text: "survey", At: 8})), api.Fault{Code: api.ErrSyntax, Line: 70, Col: 8}}, {heading(row(api.Token{Text: "survey", At: 8})), api.Fault{Code: api.ErrSyntax, Line: 70, Col: 8}}, {row(word("survey", 8)), api.Fault{Code: api.ErrSyntax, Line: 70, Col: 8}}, {heading(row(word("", 8))), api.Fault{Code: api.ErrSyntax, Line: 70, Col: 8}},
		{head(), api.Fault{Code: api.ErrNone, Line: -3, Col: 9}}, {head(api.Line{At: 4}), api.Fault{Code: api.ErrSyntax, Line: 4, Col: 1}}, {head(api.Line{At: 4, Heading: true}, pit), api.Fault{Code: api.ErrSyntax, Line: 4, Col: 1}}, {head(row(word("", 6))), api.Fault{Code: api.ErrSyntax, Line: 70, Col: 6}}, {head(row(api.Token{Kind: api.TokSign, Text: "pit", At: -8})), api.Fault{Code: api.ErrSyntax, Line: 70, Col: -8}},
		{head(withKids(pit, api.Line{})), api.Fault{Code: api.ErrSyntax, Line: 70, Col: 1}}, {head(withKids(heading(pit), api.Line{})), api.Fault{Code: api.ErrSyntax, Line: 70, Col: 1}}, {head(pit, withKids(flaw, row(word("corner", 2)))), api.Fault{Code: api.ErrSyntax, Line: 70, Col: 1}}, {head(pit, withKids(heading(flaw), api.Line{At: 6})), api.Fault{Code: api.ErrSyntax, Line: 6, Col: 1}},
		{head(pit, withKids(heading(flaw), withKids(row(word("corner", 2), number(1, 4), number(2, 6)), pit))), api.Fault{Code: api.ErrSyntax, Line: 70, Col: 2}}, {head(row(word("bed", 2), word("", 4), number(5, 6))), api.Fault{Code: api.ErrName, Line: 70, Col: 4}}, {head(row(word("bed", 2), word("b", 4), number(math.MaxInt64, 6))), api.Fault{Code: api.ErrRange, Line: 70, Col: 6}}, {head(row(word("bed", 2), word("b", 4), number(math.MinInt64, 6))), api.Fault{Code: api.ErrRange, Line: 70, Col: 6}}, {head(row(word("bed", 2), word("b", 4), api.Token{Kind: 9, N: 5, At: 6})), api.Fault{Code: api.ErrSyntax, Line: 70, Col: 6}},
		{head(row(word("open", 2), api.Token{Kind: api.TokSign, Text: "east", At: 7})), api.Fault{Code: api.ErrSyntax, Line: 70, Col: 7}}, {head(row(word("joint", 2), word("j", 4), api.Token{Kind: api.TokText, Text: "x", At: 5})), api.Fault{Code: api.ErrSyntax, Line: 70, Col: 5}},
	} {
		wantFault(t, c.l, c.want)
	}
	wantSurvey(t, head(pit), api.Survey{Pit: bx(0, 0, 0, 1, 1, 1)})
}

// TestLine holds canonical lines against those of sources, apart from their numbers, which are 0.
func TestLine(t *testing.T) {
	l, e := survey.Line(rich())
	if want := lineOf(t, richRows()...); e != api.OK || !parser.Same([]api.Line{l}, []api.Line{want}) {
		t.Errorf("Line: %v, %d, not %v", l, e, want)
	}
	random := rand.New(rand.NewSource(5))
	list := goodSurveys()
	for range 2000 {
		list = append(list, someSurvey(random, 9))
	}
	for _, s := range list {
		l, e := survey.Line(s)
		if e != api.OK || parser.Check([]api.Line{l}) != api.OK || numbered(l) {
			t.Errorf("Line of %v: %v, %d", s, l, e)
		}
		wantSurvey(t, l, s)
		// The order of the kids means nothing.
		random.Shuffle(len(l.Kids), func(i, k int) { l.Kids[i], l.Kids[k] = l.Kids[k], l.Kids[i] })
		wantSurvey(t, l, s)
	}
	if l, _ := survey.Line(api.Survey{Pit: bx(0, 0, 0, 1, 1, 1)}); len(l.Kids) != 1 {
		t.Errorf("Line of a pit alone: %v", l)
	}
}

// numbered reports whether a line, one of its kids or a token has a number.
func numbered(l api.Line) bool {
	return l.At != 0 || slices.ContainsFunc(l.Tokens, func(t api.Token) bool { return t.At != 0 }) || slices.ContainsFunc(l.Kids, numbered)
}

// TestResultsAreNew changes results of Line and Load.
func TestResultsAreNew(t *testing.T) {
	s := rich()
	l, _ := survey.Line(s)
	loaded, _ := survey.Load(l)
	for i := range l.Kids {
		l.Kids[i].Tokens[0].Text = "x"
		for k := range l.Kids[i].Kids {
			l.Kids[i].Kids[k].Tokens[1].N = 1000
		}
	}
	if !reflect.DeepEqual(s, rich()) || !survey.Equal(loaded, rich()) {
		t.Errorf("the line shares memory with %v or %v", s, loaded)
	}
	for i := range s.Flaws {
		s.Flaws[i].Prism.Base[0] = at(7, 7)
	}
	if again, _ := survey.Line(rich()); !survey.Equal(loaded, rich()) || len(again.Kids) != len(l.Kids) {
		t.Error("surveys share memory")
	}
}

// forms has the forms of the tokens behind the words of kids.
var forms = map[string]string{"pit": "NUMBER NUMBER NUMBER NUMBER NUMBER NUMBER", "open": "SIDE", "bed": "NAME NUMBER", "joint": "NAME AXIS NUMBER NUMBER NUMBER", "flaw": "NAME NUMBER NUMBER", "corner": "NUMBER NUMBER"}

// slowKid finds the first fault of a kid that must begin with one of some words, of which some have been seen.
func slowKid(l api.Line, words string, seen map[string]bool) api.Fault {
	bad := func(code api.Errno, token int) api.Fault { return parser.Bad(code, l, token) }
	word := parser.Word(l)
	if word == "" || !slices.Contains(strings.Fields(words), word) {
		return bad(api.ErrSyntax, 0)
	}
	if (word == "pit" || word == "open") && seen[word] {
		return bad(api.ErrDuplicate, 0)
	}
	seen[word] = true
	pattern := strings.Fields(forms[word])
	for word == "open" && len(pattern) < len(l.Tokens)-1 {
		pattern = append(pattern, "SIDE")
	}
	for i, form := range pattern {
		if i+1 >= len(l.Tokens) {
			return bad(api.ErrSyntax, i+1)
		}
		if e := slowToken(l.Tokens[i+1], form, l.Tokens[1:i+1]); e != api.OK {
			return bad(e, i+1)
		}
	}
	if len(l.Tokens) > len(pattern)+1 {
		return bad(api.ErrSyntax, len(pattern)+1)
	}
	if word != "flaw" && (l.Heading || len(l.Kids) > 0) || word == "flaw" && !l.Heading {
		return bad(api.ErrSyntax, 0)
	}
	for _, kid := range l.Kids {
		if f := slowKid(kid, "corner", seen); f.Code != api.OK {
			return f
		}
	}
	return api.Fault{}
}

func slowToken(t api.Token, form string, before []api.Token) api.Errno {
	isWord := func(words ...string) bool { return t.Kind == api.TokWord && slices.Contains(words, t.Text) }
	switch {
	case form == "NUMBER" && t.Kind != api.TokNumber, form == "NAME" && t.Kind != api.TokWord, form == "AXIS" && !isWord("x", "y"), form == "SIDE" && !isWord("east", "west", "north", "south"):
		return api.ErrSyntax
	case form == "NAME" && parser.Shape(api.Line{Tokens: []api.Token{t}}, []string{"NAME"}).Code != api.OK:
		return api.ErrName
	case form == "NUMBER" && (t.N > top || t.N < -top):
		return api.ErrRange
	case form == "SIDE" && slices.ContainsFunc(before, func(other api.Token) bool { return other.Text == t.Text }):
		return api.ErrDuplicate
	}
	return api.OK
}

// slowFault finds the first fault of a line, apart from those of Check.
func slowFault(l api.Line) api.Fault {
	if parser.Shape(l, []string{"survey"}).Code != api.OK || parser.Word(l) == "" || !l.Heading {
		return parser.Bad(api.ErrSyntax, l, 0)
	}
	seen := map[string]bool{}
	for _, kid := range l.Kids {
		if f := slowKid(kid, "pit open bed joint flaw", seen); f.Code != api.OK {
			return f
		}
	}
	if !seen["pit"] {
		return parser.Bad(api.ErrNone, l, 0)
	}
	return api.Fault{}
}

// mutate changes one thing of a tree.
func mutate(random *rand.Rand, l *api.Line) {
	if len(l.Kids) > 0 && random.Intn(9) > 0 {
		i := random.Intn(len(l.Kids))
		switch random.Intn(8) {
		case 0:
			l.Kids = slices.Delete(l.Kids, i, i+1)
		case 1:
			l.Kids = slices.Insert(l.Kids, i, parser.Pick(l.Kids, parser.Word(l.Kids[i]))[0])
		default:
			mutate(random, &l.Kids[i])
		}
		return
	}
	words := strings.Fields("survey pit open bed joint flaw corner east west north south x y z name Name n_1")
	other := []api.Token{{Kind: api.TokWord, Text: words[random.Intn(len(words))]}, {Kind: api.TokNumber, N: []int64{0, 1, -5, top, top + 1, -top, -top - 1}[random.Intn(7)]}, {Kind: api.TokText, Text: words[random.Intn(len(words))]}, {Kind: api.TokSign, Text: ","}}[random.Intn(4)]
	other.At = 1000 + random.Intn(9)
	i := random.Intn(len(l.Tokens) + 1)
	switch random.Intn(5) {
	case 0:
		l.Heading = !l.Heading
	case 1:
		l.Tokens = slices.Insert(l.Tokens, i, other)
	case 2:
		if i < len(l.Tokens) {
			l.Tokens = slices.Delete(l.Tokens, i, i+1)
		}
	default:
		if i < len(l.Tokens) {
			l.Tokens[i] = other
		}
	}
}

// number gives all lines and tokens numbers.
func number(l *api.Line, next *int) {
	*next++
	l.At = *next
	for i := range l.Tokens {
		*next++
		l.Tokens[i].At = *next
	}
	for i := range l.Kids {
		number(&l.Kids[i], next)
	}
}

func TestFaultsAgainstSlowOnes(t *testing.T) {
	random := rand.New(rand.NewSource(8))
	codes := map[api.Errno]int{}
	for range 40000 {
		l, _ := survey.Line(someSurvey(random, 5))
		for range 1 + random.Intn(3) {
			mutate(random, &l)
		}
		next := 0
		number(&l, &next)
		s, f := survey.Load(l)
		codes[f.Code]++
		want := slowFault(l)
		if want == (api.Fault{}) && f != want {
			// What is left are the errors of Check, which have their own tests.
			want = parser.Bad(f.Code, l, 0)
		}
		if f != want || f.Code != api.OK && !survey.Equal(s, api.Survey{}) || f.Code == api.OK && survey.Check(s) != api.OK {
			t.Errorf("Load of %v: %v, %v, not %v", l, s, f, want)
		}
	}
	for _, code := range []api.Errno{api.OK, api.ErrSyntax, api.ErrNone, api.ErrDuplicate, api.ErrName, api.ErrRange, api.ErrInvalid, api.ErrConflict, api.ErrOutside} {
		if codes[code] < 20 {
			t.Errorf("only %d lines have %d", codes[code], code)
		}
	}
}
