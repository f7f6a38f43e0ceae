package lexer_test

import (
	"math/rand"
	"regexp"
	"slices"
	"strconv"
	"strings"
	"testing"

	"gangsaw/api"
	"gangsaw/lexer"
)

// form is the form of a kind of tokens, as far as it takes bytes; what is wrong with them comes behind it.
type form struct {
	kind  int
	takes *regexp.Regexp
}

var forms = []form{
	{api.TokWord, regexp.MustCompile(`^[A-Za-z][A-Za-z0-9_]*`)},
	{api.TokNumber, regexp.MustCompile(`^-?[0-9]+`)},
	{api.TokText, regexp.MustCompile(`(?s)^"[^"]*"`)},
	{api.TokSign, regexp.MustCompile(`^[(),=:<>+/]`)},
}

var (
	good  = regexp.MustCompile(`^(0|-?[1-9][0-9]*)$`)
	inner = regexp.MustCompile(`^([!#-~]|[!#-~][ !#-~]{0,38}[!#-~])$`)
	small = regexp.MustCompile(`^[a-z][a-z0-9_]{0,23}$`)
)

// slowToken returns the token at the front of a text, the length of its spelling, and what is wrong with it.
func slowToken(s string) (api.Token, int, api.Errno) {
	for _, f := range forms {
		taken := f.takes.FindString(s)
		if taken == "" {
			continue
		}
		t := api.Token{Kind: f.kind, Text: taken}
		switch f.kind {
		case api.TokWord:
			if len(taken) > 40 {
				return t, 0, api.ErrName
			}
		case api.TokNumber:
			t.Text = ""
			if !good.MatchString(taken) || regexp.MustCompile(`^[A-Za-z_]`).MatchString(s[len(taken):]) {
				return t, 0, api.ErrSyntax
			}
			n, err := strconv.ParseFloat(taken, 64)
			if err != nil || n > 1e15 || n < -1e15 {
				return t, 0, api.ErrRange
			}
			t.N = int64(n)
		case api.TokText:
			t.Text = taken[1 : len(taken)-1]
			if !inner.MatchString(t.Text) {
				return t, 0, api.ErrName
			}
		}
		return t, len(taken), api.OK
	}
	return api.Token{}, 0, api.ErrSyntax
}

// slowScan takes one token after the other from the front.
func slowScan(line string) (lexer.Scanned, api.Fault) {
	fault := func(code api.Errno, rest string) (lexer.Scanned, api.Fault) {
		return lexer.Scanned{}, api.Fault{Code: code, Col: len(line) - len(rest) + 1}
	}
	if len(line) > 1000 {
		return lexer.Scanned{}, api.Fault{Code: api.ErrTooMany, Col: 1001}
	}
	var s lexer.Scanned
	rest := strings.TrimLeft(line, " ")
	indent := len(line) - len(rest)
	if rest == "" || rest[0] == '#' {
		return lexer.Scanned{Comment: strings.TrimPrefix(rest, "#")}, api.Fault{}
	}
	if indent%2 == 1 {
		return fault(api.ErrSyntax, rest)
	}
	if indent > 12 {
		return fault(api.ErrTooMany, rest)
	}
	s.Indent = indent / 2
	for rest != "" && rest[0] != '#' {
		if len(s.Tokens) == 64 {
			return fault(api.ErrTooMany, rest)
		}
		t, n, code := slowToken(rest)
		if code != api.OK {
			return fault(code, rest)
		}
		t.At = len(line) - len(rest) + 1
		s.Tokens = append(s.Tokens, t)
		rest = strings.TrimLeft(rest[n:], " ")
	}
	s.Comment = strings.TrimPrefix(rest, "#")
	last := s.Tokens[len(s.Tokens)-1]
	if last.Kind == api.TokSign && last.Text == ":" {
		s.Heading, s.Tokens = true, s.Tokens[:len(s.Tokens)-1]
		if len(s.Tokens) == 0 {
			return lexer.Scanned{}, api.Fault{Code: api.ErrSyntax, Col: last.At}
		}
	}
	return s, api.Fault{}
}

// compare compares Scan with the slow one.
func compare(t *testing.T, line string) {
	t.Helper()
	want, f := slowScan(line)
	if f == (api.Fault{}) {
		wantScan(t, line, want)
	} else {
		wantFault(t, line, f.Code, f.Col)
	}
}

// TestShortLines scans all lines of up to 5 bytes of an alphabet.
func TestShortLines(t *testing.T) {
	alphabet := "aZ_0 1-\":#(\xe9"
	var visit func(line string)
	visit = func(line string) {
		compare(t, line)
		if len(line) < 5 {
			for i := range len(alphabet) {
				visit(line + alphabet[i:i+1])
			}
		}
	}
	visit("")
}

var pieces = []string{
	" ", " ", "  ", "    ", "a", "bed", "Z_9", "_", "0", "7", "42", "-3", "-", "1000000000000000", "1000000000000001", "-1000000000000001", "00", "\"", "\"a b\"", "\"\"", "\" a\"", "(", ")", ",", "=", ":", "<", ">", "+", "/", "#", "# c", "\t", "\x00", "\x7f", "\xff", "?", ".",
	strings.Repeat("w", 39), strings.Repeat("w", 40), strings.Repeat("w", 41), `"` + strings.Repeat("l", 40) + `"`, `"` + strings.Repeat("l", 41) + `"`, strings.Repeat("a ", 63), strings.Repeat("(", 64), strings.Repeat(" ", 12), strings.Repeat(" ", 990),
}

func TestRandomLines(t *testing.T) {
	random := rand.New(rand.NewSource(9))
	good := 0
	for range 100000 {
		line := strings.Repeat("  ", random.Intn(8))
		for range random.Intn(9) {
			line += pieces[random.Intn(len(pieces))]
		}
		compare(t, line)
		if _, f := lexer.Scan(line); f == (api.Fault{}) {
			good++
		}
	}
	if good < 5000 {
		t.Errorf("only %d lines without fault", good)
	}
}

func TestRandomNamesAndLabels(t *testing.T) {
	random := rand.New(rand.NewSource(91))
	alphabet := "abz09_A -~\"!#\x1f\x7f\xc3\x00"
	for range 200000 {
		s := make([]byte, random.Intn(6))
		for i := range s {
			s[i] = alphabet[random.Intn(len(alphabet))]
		}
		name := string(s) + strings.Repeat("q", random.Intn(3)*random.Intn(20))
		if lexer.Name(name) != small.MatchString(name) || lexer.Label(name) != inner.MatchString(name) {
			t.Errorf("%q: %v, %v", name, lexer.Name(name), lexer.Label(name))
		}
	}
}

// someValid makes a valid token.
func someValid(random *rand.Rand) api.Token {
	switch random.Intn(4) {
	case 0:
		s := letters[random.Intn(52):][:1]
		for range random.Intn(5) {
			s += (letters + digits + "_")[random.Intn(63):][:1]
		}
		return word(s, 0)
	case 1:
		return number(random.Int63n(lexer.MaxNumber+1)>>random.Intn(51)*int64(1-2*random.Intn(2)), 0)
	case 2:
		return text([]string{"a", "x y", "#", ":", "-0", "~", "(b", "1  2"}[random.Intn(8)], 0)
	}
	return sign(signs[random.Intn(9):][:1], 0)
}

// TestSpellingsAreScanned tests P9.4.
func TestSpellingsAreScanned(t *testing.T) {
	random := rand.New(rand.NewSource(94))
	for range 20000 {
		var list []api.Token
		var line, wide string
		for range 1 + random.Intn(8) {
			token := someValid(random)
			s, e := lexer.Spell(token)
			if e != api.OK || !lexer.Valid(token) {
				t.Fatalf("Spell of %v: %q, %d", token, s, e)
			}
			list = append(list, token)
			line += s + " "
			wide += s + strings.Repeat(" ", 1+random.Intn(4))
		}
		line = strings.TrimSuffix(line, " ")
		wide = "    " + wide + "# " + line
		last := list[len(list)-1]
		heading := last == sign(":", 0)
		if heading {
			list = list[:len(list)-1]
		}
		if len(list) == 0 {
			continue
		}
		narrow, f := lexer.Scan(line)
		loose, g := lexer.Scan(wide)
		if f != (api.Fault{}) || g != (api.Fault{}) || narrow.Heading != heading || loose.Heading != heading || narrow.Indent != 0 || loose.Indent != 2 || narrow.Comment != "" || loose.Comment != " "+line {
			t.Fatalf("Scan of %q: %v, %v, and of %q: %v, %v", line, narrow, f, wide, loose, g)
		}
		for _, s := range []lexer.Scanned{narrow, loose} {
			columns := slices.Clone(s.Tokens)
			for i := range columns {
				if i > 0 && s.Tokens[i].At <= s.Tokens[i-1].At {
					t.Errorf("columns of %q do not increase: %v", line, s.Tokens)
				}
				columns[i].At = 0
			}
			if !slices.Equal(columns, list) {
				t.Errorf("Scan of %q: %v, not %v", line, columns, list)
			}
		}
	}
}
