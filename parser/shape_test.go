package parser_test

import (
	"math/rand"
	"regexp"
	"strings"
	"testing"

	"gangsaw/api"
	"gangsaw/lexer"
	"gangsaw/parser"
)

// lineOf is the line 1 of a source.
func lineOf(t *testing.T, s string) api.Line {
	t.Helper()
	lines, f := parser.Parse(s)
	if f != (api.Fault{}) || len(lines) != 1 {
		t.Fatalf("Parse of %q: %v", s, f)
	}
	return lines[0]
}

// fault is a fault in the first line.
func fault(code api.Errno, col int) api.Fault {
	return api.Fault{Code: code, Line: 1, Col: col}
}

const (
	ok     = api.OK
	syntax = api.ErrSyntax
	name   = api.ErrName
)

// TestShapes has lines with patterns (words with blanks between them) and the fault.
func TestShapes(t *testing.T) {
	for _, c := range []struct {
		line, pattern string
		code          api.Errno
		col           int
	}{
		// The examples.
		{"stone a 100", "stone NAME NUMBER", ok, 0}, {"stone a 100", "stone NAME", syntax, 9}, {"stone a 100", "stone NAME NUMBER NUMBER", syntax, 9}, {"stone a 100", "stone NAME NUMBER+", ok, 0}, {"stone A", "stone NAME", name, 7},
		// Words and signs with their texts.
		{"stone", "stone", ok, 0}, {"Stone", "stone", syntax, 1}, {"stones", "stone", syntax, 1}, {"stone", "stones", syntax, 1}, {"stone", "STONE", syntax, 1}, {`"stone"`, "stone", syntax, 1}, {"f ( x )", "f ( x )", ok, 0}, {"f(x)", "f ( x )", ok, 0}, {"f ( x )", "f ) x )", syntax, 3}, {`f "("`, "f (", syntax, 3}, {"a = 5", "a = 5", syntax, 5}, {"5", "5", syntax, 1}, {"a b", "a b", ok, 0}, {"a b", "b a", syntax, 1}, {"a c", "a b", syntax, 3}, {"word", "WORD", ok, 0}, {"word", "word", ok, 0}, {"a", "word", syntax, 1}, {"a", "name", syntax, 1}, {"number", "number", ok, 0}, {"5", "number", syntax, 1}, {"a", "any", syntax, 1}, {`"a"`, "text", syntax, 1},
		{"a < b > c + d / e , f : g", "a < b > c + d / e , f : g", ok, 0},
		// Kinds of tokens.
		{"abc", "WORD", ok, 0}, {"ABC_9", "WORD", ok, 0}, {"5", "WORD", syntax, 1}, {`"a"`, "WORD", syntax, 1}, {"(", "WORD", syntax, 1},
		{"abc", "NAME", ok, 0}, {"a_9", "NAME", ok, 0}, {"Abc", "NAME", name, 1}, {"aBc", "NAME", name, 1}, {strings.Repeat("a", 24), "NAME", ok, 0}, {strings.Repeat("a", 25), "NAME", name, 1}, {strings.Repeat("a", 40), "NAME", name, 1}, {strings.Repeat("a", 40), "WORD", ok, 0}, {"5", "NAME", syntax, 1}, {`"a"`, "NAME", syntax, 1}, {"+", "NAME", syntax, 1},
		{"5", "NUMBER", ok, 0}, {"-5", "NUMBER", ok, 0}, {"0", "NUMBER", ok, 0}, {"1000000000000000", "NUMBER", ok, 0}, {"a", "NUMBER", syntax, 1}, {`"5"`, "NUMBER", syntax, 1}, {"+", "NUMBER", syntax, 1},
		{`"a b"`, "TEXT", ok, 0}, {`"5"`, "TEXT", ok, 0}, {"a", "TEXT", syntax, 1}, {"5", "TEXT", syntax, 1}, {"=", "TEXT", syntax, 1},
		{"a", "ANY", ok, 0}, {"A", "ANY", ok, 0}, {"5", "ANY", ok, 0}, {`"A b"`, "ANY", ok, 0}, {"=", "ANY", ok, 0}, {"a 5", "ANY", syntax, 3}, {"a", "ANY ANY", syntax, 1}, {"a 5", "ANY ANY", ok, 0},
		// Words that look like kinds.
		{"WORD NAME NUMBER TEXT ANY", "WORD WORD WORD WORD WORD", ok, 0}, {"NUMBER", "NUMBER", syntax, 1}, {"TEXT", "TEXT", syntax, 1}, {"NAME", "NAME", name, 1}, {"Word", "Word", ok, 0}, {"a", "Word", syntax, 1}, {"a", "WORDS", syntax, 1}, {"WORDS", "WORDS", ok, 0}, {"a", "NAMES", syntax, 1}, {"a", "WOR", syntax, 1},
		// Lacking and superfluous tokens.
		{"a", "", syntax, 1}, {"  a", "", syntax, 3}, {"a b", "a", syntax, 3}, {"a b c", "a", syntax, 3}, {"a b c", "a b", syntax, 5}, {"a", "a b", syntax, 1}, {"a b", "a b c", syntax, 3}, {"a b", "a b c d e", syntax, 3}, {"a   b   c", "a b c NUMBER", syntax, 9}, {"a", "a NUMBER", syntax, 1}, {"a B", "a", syntax, 3},
		// The first of several.
		{"A B", "NAME NAME", name, 1}, {"a B", "NAME NAME", name, 3}, {"A 5", "NAME NAME", name, 1}, {"5 A", "NAME NAME", syntax, 1}, {"A b", "NAME NUMBER", name, 1}, {"a B c", "x NAME NUMBER", syntax, 1}, {"A", "NAME NUMBER", name, 1}, {"a B", "NAME NAME NUMBER", name, 3}, {"A b c", "NAME NAME", name, 1}, {"a b C", "NAME NAME", syntax, 5}, {"a 5 C", "NAME WORD NAME", syntax, 3}, {"a C 5", "NAME NAME WORD", name, 3}, {"a b", "x y", syntax, 1}, {"a b", "a y z", syntax, 3},
		// Any number of tokens.
		{"a", "NUMBER*", syntax, 1}, {"a", "a NUMBER*", ok, 0}, {"a 1", "a NUMBER*", ok, 0}, {"a 1 2 3", "a NUMBER*", ok, 0}, {"a 1 b", "a NUMBER*", syntax, 5}, {"a b", "a NUMBER*", syntax, 3}, {"a 1 2 b 3", "a NUMBER*", syntax, 7}, {"1", "NUMBER*", ok, 0}, {"1 2", "NUMBER*", ok, 0}, {"b", "a NUMBER*", syntax, 1}, {"a", "a b NUMBER*", syntax, 1},
		{"a", "a NUMBER+", syntax, 1}, {"a 1", "a NUMBER+", ok, 0}, {"a 1 2 3", "a NUMBER+", ok, 0}, {"a b", "a NUMBER+", syntax, 3}, {"a 1 b", "a NUMBER+", syntax, 5}, {"1", "NUMBER+", ok, 0}, {"1 2 3 4", "NUMBER+", ok, 0}, {"a 1", "a NUMBER NUMBER+", syntax, 3}, {"a 1 2", "a NUMBER NUMBER+", ok, 0}, {"a 1 2 3", "a NUMBER NUMBER+", ok, 0}, {"a", "a NUMBER NUMBER*", syntax, 1}, {"a 1", "a NUMBER NUMBER*", ok, 0}, {"a b", "a b NUMBER+", syntax, 3},
		{"a b c", "WORD*", ok, 0}, {"a B c", "WORD+", ok, 0}, {"a B 5", "WORD*", syntax, 5}, {"a B 5", "NAME*", name, 3}, {"a 5 B", "NAME*", syntax, 3}, {"a b C", "NAME+", name, 5}, {"A", "NAME+", name, 1}, {"A", "NAME*", name, 1}, {"a", "a NAME+", syntax, 1}, {"a b", "a NAME+", ok, 0}, {"a b c d e f", "a NAME+", ok, 0}, {`"a" "b"`, "TEXT*", ok, 0}, {`"a" b`, "TEXT+", syntax, 5}, {`a 5 "b" = C`, "ANY*", ok, 0}, {`a 5 "b" = C`, "ANY+", ok, 0}, {"a", "a ANY+", syntax, 1}, {"a", "a ANY*", ok, 0},
		{"x x x", "x*", ok, 0}, {"x x x", "x+", ok, 0}, {"x x y", "x*", syntax, 5}, {"x y", "x+", syntax, 3}, {"y", "x+", syntax, 1}, {"y", "x*", syntax, 1}, {"y", "y x*", ok, 0}, {"y", "y x+", syntax, 1}, {"( ( (", "(*", ok, 0}, {"( ( (", "(+", ok, 0}, {"( )", "(+", syntax, 3},
		// Single + and * are no marks.
		{"+", "+", ok, 0}, {"+ +", "+", syntax, 3}, {"a", "+", syntax, 1}, {"a +", "a +", ok, 0}, {"a", "a +", syntax, 1}, {"a b", "a *", syntax, 3}, {"a", "a *", syntax, 1}, {"a", "*", syntax, 1}, {"+ +", "++", ok, 0}, {"+", "++", ok, 0}, {"a", "++", syntax, 1}, {"a", "a ++", syntax, 1}, {"a + +", "a ++", ok, 0}, {"+ + +", "+*", ok, 0}, {"a", "a +*", ok, 0}, {"a", "a **", ok, 0}, {"a b", "a **", syntax, 3}, {"a", "a *+", syntax, 1},
		// Only one mark counts, and only at the end of the last string.
		{"a", "a x**", ok, 0}, {"a x", "a x**", syntax, 3}, {"a x", "a x*+", syntax, 3}, {"a", "a x+*", ok, 0}, {"a x", "a x+*", syntax, 3}, {"a", "a NUMBER++", syntax, 1}, {"a 1", "a NUMBER++", syntax, 3}, {"1 a", "NUMBER* a", syntax, 1}, {"a", "NUMBER* a", syntax, 1}, {"1 2 a", "NUMBER+ a", syntax, 1}, {"1 2", "NUMBER+ NUMBER*", syntax, 1}, {"a a", "*a a", syntax, 1}, {"a 1", "a +NUMBER", syntax, 3}, {"a", "a *NUMBER", syntax, 1}, {"a b", "a b?", syntax, 3}, {"a b b", "a b-", syntax, 3},
		// Headings and columns.
		{"wall south:", "wall NAME", ok, 0}, {"wall south:", "wall", syntax, 6}, {"wall south:", "wall NAME :", syntax, 6}, {"a ::", "a :", ok, 0}, {"a : b", "a :", syntax, 5}, {"a : b", "a : NAME", ok, 0},
	} {
		want := api.Fault{}
		if c.code != ok {
			want = fault(c.code, c.col)
		}
		var l api.Line
		if strings.HasPrefix(c.line, " ") {
			l, want.Line = lineOf(t, "top:\n"+c.line).Kids[0], 2
		} else {
			l = lineOf(t, c.line)
		}
		if f := parser.Shape(l, strings.Fields(c.pattern)); f != want {
			t.Errorf("Shape of %q with %q: %v, not %v", c.line, c.pattern, f, want)
		}
	}
}

func TestShapesOfLinesThatWereNotParsed(t *testing.T) {
	empty := api.Line{At: 7}
	for _, pattern := range [][]string{nil, {}, {"NUMBER*"}, {"ANY*"}, {"a*"}, {"NAME*"}} {
		if f := parser.Shape(empty, pattern); f != (api.Fault{}) {
			t.Errorf("Shape of a line without tokens with %q: %v", pattern, f)
		}
	}
	for _, pattern := range [][]string{{"a"}, {"ANY"}, {"NAME+"}, {"+"}, {"*"}, {""}, {"a", "NUMBER*"}, {"a*", "b*"}} {
		if f := parser.Shape(empty, pattern); f != (api.Fault{Code: syntax, Line: 7, Col: 1}) {
			t.Errorf("Shape of a line without tokens with %q: %v", pattern, f)
		}
	}
	for _, c := range []struct {
		token   api.Token
		pattern string
		want    api.Errno
	}{
		{api.Token{}, "ANY", ok}, {api.Token{Kind: 9, Text: "a"}, "ANY", ok}, {api.Token{Kind: -1}, "ANY+", ok}, {api.Token{Kind: -1}, "WORD", syntax}, {api.Token{}, "WORD", syntax}, {api.Token{}, "NUMBER", syntax}, {api.Token{Kind: 9, Text: "a"}, "a", syntax}, {api.Token{Text: "a"}, "a", syntax}, {text("a"), "a", syntax}, {api.Token{Kind: api.TokNumber, Text: "a"}, "a", syntax}, {sign("a"), "a", ok}, {word("a"), "a", ok}, {word("*"), "*", ok}, {sign("*"), "*", ok}, {word("a*"), "a*", syntax}, {word("NUMBER*"), "NUMBER*", syntax},
		{word("("), "(", ok}, {word("x y"), "x y", ok}, {word(""), "NAME", name}, {word("?"), "NAME", name}, {number(5), "", syntax}, {word("abc"), "", syntax},
	} {
		c.token.At = 13
		l := api.Line{Tokens: []api.Token{c.token}, At: -2, Kids: []api.Line{head("a")}}
		want := api.Fault{}
		if c.want != ok {
			want = api.Fault{Code: c.want, Line: -2, Col: 13}
		}
		if f := parser.Shape(l, []string{c.pattern}); f != want {
			t.Errorf("Shape of %v with %q: %v, not %v", l, c.pattern, f, want)
		}
	}
	last := at([]api.Token{word("a"), word("")}, 1, 3)
	for i, pattern := range [][]string{{"a"}, nil} {
		if f := parser.Shape(api.Line{Tokens: last[i:], At: 1}, pattern); f != fault(syntax, 3) {
			t.Errorf("Shape of a superfluous token with an empty text with %q: %v", pattern, f)
		}
	}
	many := long(100000, number(1))
	many.Tokens[99999] = word("A")
	many.Tokens[99999].At = 3
	if f := parser.Shape(many, []string{"NUMBER", "ANY*"}); f != (api.Fault{}) {
		t.Errorf("Shape of many tokens: %v", f)
	}
	if f := parser.Shape(many, []string{"NUMBER+"}); f != (api.Fault{Code: syntax, Col: 3}) {
		t.Errorf("Shape of many tokens: %v", f)
	}
}

// classOf has the letters for a token of which slowShape makes an expression: w for a name, W for another word, and so on.
func classOf(t api.Token) string {
	switch t.Kind {
	case api.TokWord:
		if lexer.Name(t.Text) {
			return "w" + t.Text + ";"
		}
		return "W" + t.Text + ";"
	case api.TokNumber:
		return "n;"
	case api.TokText:
		return "t;"
	}
	return "s" + t.Text + ";"
}

// expression has the regular expression of a form.
func expression(form string, strict bool) string {
	switch form {
	case "WORD":
		return "[wW][^;]*;"
	case "NAME":
		if strict {
			return "w[^;]*;"
		}
		return "[wW][^;]*;"
	case "NUMBER":
		return "n;"
	case "TEXT":
		return "t;"
	case "ANY":
		return "[^;]*;"
	}
	return "[wWs]" + regexp.QuoteMeta(form) + ";"
}

// matches reports whether the first tokens of a line can be those of a line with a pattern, or (whole) whether the line has it.
func matches(l api.Line, pattern []string, first int, strict, whole bool) bool {
	text, parts := "", []string{}
	for _, t := range l.Tokens[:first] {
		text += classOf(t)
	}
	for i, form := range pattern {
		mark := ""
		if last := len(form) - 1; i == len(pattern)-1 && last > 0 && strings.ContainsAny(form[last:], "*+") {
			form, mark = form[:last], form[last:]
		}
		parts = append(parts, "("+expression(form, strict)+")"+mark)
	}
	if whole {
		return regexp.MustCompile("^" + strings.Join(parts, "") + "$").MatchString(text)
	}
	for n := range len(parts) + 1 {
		if regexp.MustCompile("^" + strings.Join(parts[:n], "") + "$").MatchString(text) {
			return true
		}
	}
	return false
}

// slowShape looks for the shortest front of a line that no line with the pattern has.
func slowShape(l api.Line, pattern []string) api.Fault {
	wrong, code := -1, ok
	if !matches(l, pattern, len(l.Tokens), false, true) {
		wrong, code = len(l.Tokens), syntax
	}
	for n := len(l.Tokens); n >= 1; n-- {
		if !matches(l, pattern, n, false, false) {
			wrong, code = n-1, syntax
		}
	}
	for n := len(l.Tokens); n >= 1; n-- {
		if (wrong < 0 || n-1 <= wrong) && matches(l, pattern, n, false, false) && !matches(l, pattern, n, true, false) {
			wrong, code = n-1, name
		}
	}
	if code == ok {
		return api.Fault{}
	}
	return fault(code, l.Tokens[min(wrong, len(l.Tokens)-1)].At)
}

func TestRandomShapes(t *testing.T) {
	random := rand.New(rand.NewSource(104))
	tokens := []string{"a", "b", "B", "A1", "5", "-7", `"a"`, `"x y"`, "(", "+", "+", "="}
	patterns := []string{"a", "b", "B", "WORD", "NAME", "NAME", "NAME", "NUMBER", "NUMBER", "TEXT", "ANY", "ANY", "(", "+", "=", "x"}
	marks := []string{"", "", "*", "+"}
	seen := map[api.Errno]int{}
	for range 40000 {
		var line, pattern []string
		for range 1 + random.Intn(4) {
			line = append(line, tokens[random.Intn(len(tokens))])
		}
		for i := range random.Intn(4) {
			form := patterns[random.Intn(len(patterns))]
			if random.Intn(2) == 0 && i < len(line) && !strings.ContainsAny(line[i], `"5-`) {
				form = line[i]
			}
			pattern = append(pattern, form+marks[random.Intn(4)*random.Intn(2)])
		}
		l := lineOf(t, strings.Join(line, " "))
		want := slowShape(l, pattern)
		seen[want.Code]++
		if f := parser.Shape(l, pattern); f != want {
			t.Fatalf("Shape of %q with %q: %v, not %v", line, pattern, f, want)
		}
	}
	if seen[ok] < 500 || seen[name] < 200 {
		t.Errorf("shapes by errors: %v", seen)
	}
}
