package lexer_test

import (
	"fmt"
	"math"
	"slices"
	"strings"
	"testing"

	"gangsaw/api"
	"gangsaw/lexer"
)

const (
	letters = "abcdefghijklmnopqrstuvwxyzABCDEFGHIJKLMNOPQRSTUVWXYZ"
	digits  = "0123456789"
	signs   = "(),=:<>+/"
)

func word(s string, at int) api.Token {
	return api.Token{Kind: api.TokWord, Text: s, At: at}
}

func number(n int64, at int) api.Token {
	return api.Token{Kind: api.TokNumber, N: n, At: at}
}

func text(s string, at int) api.Token {
	return api.Token{Kind: api.TokText, Text: s, At: at}
}

func sign(s string, at int) api.Token {
	return api.Token{Kind: api.TokSign, Text: s, At: at}
}

func tokens(list ...api.Token) []api.Token {
	return list
}

// wantScan tests that a line has what it should have.
func wantScan(t *testing.T, line string, want lexer.Scanned) {
	t.Helper()
	s, f := lexer.Scan(line)
	if f != (api.Fault{}) || s.Indent != want.Indent || s.Heading != want.Heading || s.Comment != want.Comment || !slices.Equal(s.Tokens, want.Tokens) {
		t.Errorf("Scan of %.80q: %+v, %v, not %+v", line, s, f, want)
	}
}

// wantFault tests that a line is refused.
func wantFault(t *testing.T, line string, code api.Errno, col int) {
	t.Helper()
	s, f := lexer.Scan(line)
	if f != (api.Fault{Code: code, Col: col}) || s.Indent != 0 || len(s.Tokens) != 0 || s.Heading || s.Comment != "" {
		t.Errorf("Scan of %.80q: %+v, %v, not the code %d in column %d", line, s, f, code, col)
	}
}

func TestSignatures(t *testing.T) {
	var (
		_ func(string) (lexer.Scanned, api.Fault) = lexer.Scan
		_ func(string) ([]string, api.Errno)      = lexer.Lines
		_ func(api.Token) bool                    = lexer.Valid
		_ func(api.Token) (string, api.Errno)     = lexer.Spell
		_ func(string) bool                       = lexer.Name
		_ func(string) bool                       = lexer.Label

		_ = struct {
			Indent  int
			Tokens  []api.Token
			Heading bool
			Comment string
		}(lexer.Scanned{})
	)
	if lexer.MaxLine != 1000 || lexer.MaxTokens != 64 || lexer.MaxNumber != 1000000000000000 {
		t.Error("constants")
	}
}

func TestExamples(t *testing.T) {
	wantScan(t, "  bed = upper, -120  # seen", lexer.Scanned{Indent: 1, Tokens: tokens(word("bed", 3), sign("=", 7), word("upper", 9), sign(",", 14), number(-120, 16)), Comment: " seen"})
	wantScan(t, "wall south:", lexer.Scanned{Tokens: tokens(word("wall", 1), word("south", 6)), Heading: true})
	wantFault(t, ":", api.ErrSyntax, 1)
	wantFault(t, "007", api.ErrSyntax, 1)
	wantFault(t, "12a", api.ErrSyntax, 1)
	wantFault(t, "-0", api.ErrSyntax, 1)
	wantFault(t, `"a`, api.ErrSyntax, 1)
	wantFault(t, `""`, api.ErrName, 1)
}

// TestMixedLines has lines with tokens of several kinds, with and without blanks between them.
func TestMixedLines(t *testing.T) {
	for line, want := range map[string]lexer.Scanned{
		`a1_B"x y"-5+6`:          {Tokens: tokens(word("a1_B", 1), text("x y", 5), number(-5, 10), sign("+", 12), number(6, 13))},
		`x-1`:                    {Tokens: tokens(word("x", 1), number(-1, 2))},
		`12-3"4"5`:               {Tokens: tokens(number(12, 1), number(-3, 3), text("4", 5), number(5, 8))},
		`"a""b"c`:                {Tokens: tokens(text("a", 1), text("b", 4), word("c", 7))},
		`7(`:                     {Tokens: tokens(number(7, 1), sign("(", 2))},
		`f(a,b)=g<h>i+j/k:l`:     {Tokens: tokens(word("f", 1), sign("(", 2), word("a", 3), sign(",", 4), word("b", 5), sign(")", 6), sign("=", 7), word("g", 8), sign("<", 9), word("h", 10), sign(">", 11), word("i", 12), sign("+", 13), word("j", 14), sign("/", 15), word("k", 16), sign(":", 17), word("l", 18))},
		`    Z   0  `:            {Indent: 2, Tokens: tokens(word("Z", 5), number(0, 9))},
		`a:`:                     {Tokens: tokens(word("a", 1)), Heading: true},
		`a : `:                   {Tokens: tokens(word("a", 1)), Heading: true},
		`  a :# b:`:              {Indent: 1, Tokens: tokens(word("a", 3)), Heading: true, Comment: " b:"},
		`a#:`:                    {Tokens: tokens(word("a", 1)), Comment: ":"},
		`::`:                     {Tokens: tokens(sign(":", 1)), Heading: true},
		`  : : :`:                {Indent: 1, Tokens: tokens(sign(":", 3), sign(":", 5)), Heading: true},
		`: a`:                    {Tokens: tokens(sign(":", 1), word("a", 3))},
		`:=`:                     {Tokens: tokens(sign(":", 1), sign("=", 2))},
		`":"`:                    {Tokens: tokens(text(":", 1))},
		`a ":"`:                  {Tokens: tokens(word("a", 1), text(":", 3))},
		`a ":" :`:                {Tokens: tokens(word("a", 1), text(":", 3)), Heading: true},
		`"a # b" c`:              {Tokens: tokens(text("a # b", 1), word("c", 9))},
		`a "b#" # c "`:           {Tokens: tokens(word("a", 1), text("b#", 3)), Comment: ` c "`},
		`a## b # c  `:            {Tokens: tokens(word("a", 1)), Comment: "# b # c  "},
		"a # \x00\t\n\"\x7f\xff": {Tokens: tokens(word("a", 1)), Comment: " \x00\t\n\"\x7f\xff"},
		`a #`:                    {Tokens: tokens(word("a", 1))},
		`1#2`:                    {Tokens: tokens(number(1, 1)), Comment: "2"},
		`-1#`:                    {Tokens: tokens(number(-1, 1))},
	} {
		wantScan(t, line, want)
	}
}

// TestLinesWithoutTokens have no indentation and are no headings.
func TestLinesWithoutTokens(t *testing.T) {
	for line, comment := range map[string]string{
		"": "", " ": "", "  ": "", "   ": "", strings.Repeat(" ", 13): "", strings.Repeat(" ", 14): "", strings.Repeat(" ", 15): "", strings.Repeat(" ", 1000): "",
		"#": "", "# ": " ", "#:": ":", " #a": "a", "  # a:": " a:", "   ##": "#", strings.Repeat(" ", 14) + "#x": "x", strings.Repeat(" ", 999) + "#": "",
		"#" + strings.Repeat("\xff", 999): strings.Repeat("\xff", 999), " # \" 007 12a \x00": " \" 007 12a \x00",
	} {
		wantScan(t, line, lexer.Scanned{Comment: comment})
	}
}

func TestLongLines(t *testing.T) {
	most := []string{strings.Repeat(" ", 999) + "#", "a" + strings.Repeat(" ", 999), "a#" + strings.Repeat("x", 998), strings.Repeat(" ", 1000), "#" + strings.Repeat("y", 999), "  a" + strings.Repeat(" ", 996) + "b"}
	for _, line := range most {
		if _, f := lexer.Scan(line); len(line) != lexer.MaxLine || f != (api.Fault{}) {
			t.Errorf("Scan of a line of %d bytes: %v", len(line), f)
		}
	}
	for _, line := range append(most, strings.Repeat("?", 1000), "   007"+strings.Repeat(" ", 994), strings.Repeat("a ", 500), strings.Repeat("a", 1000), strings.Repeat("9", 1000)) {
		for _, more := range []string{" ", "#", "x", "\x00", strings.Repeat("long ", 20000)} {
			wantFault(t, line+more, api.ErrTooMany, lexer.MaxLine+1)
		}
	}
	wantFault(t, strings.Repeat("?", 1000), api.ErrSyntax, 1)
	wantFault(t, "a"+strings.Repeat(" ", 998)+"?", api.ErrSyntax, 1000)
	wantScan(t, "a"+strings.Repeat(" ", 998)+"b", lexer.Scanned{Tokens: tokens(word("a", 1), word("b", 1000))})
	wantScan(t, "a"+strings.Repeat(" ", 998)+":", lexer.Scanned{Tokens: tokens(word("a", 1)), Heading: true})
}

func TestIndentation(t *testing.T) {
	for n := range 40 {
		blanks := strings.Repeat(" ", n)
		for _, rest := range []string{"a", "-1", `"a"`, "(", "a:", "a # b", "a b"} {
			switch {
			case n%2 == 1:
				wantFault(t, blanks+rest, api.ErrSyntax, n+1)
			case n > 2*api.MaxIndent:
				wantFault(t, blanks+rest, api.ErrTooMany, n+1)
			default:
				if s, f := lexer.Scan(blanks + rest); f != (api.Fault{}) || s.Indent != n/2 || s.Tokens[0].At != n+1 {
					t.Errorf("Scan of %q: %v, %v", blanks+rest, s, f)
				}
			}
		}
		// What is wrong with the first token, too, comes behind that.
		for rest, code := range map[string]api.Errno{"?": api.ErrSyntax, "007": api.ErrSyntax, `"a`: api.ErrSyntax, `""`: api.ErrName, strings.Repeat("a", 41): api.ErrName, "9999999999999999": api.ErrRange, ":": api.ErrSyntax, "\t": api.ErrSyntax} {
			if n%2 == 1 {
				code = api.ErrSyntax
			} else if n > 2*api.MaxIndent {
				code = api.ErrTooMany
			}
			wantFault(t, blanks+rest, code, n+1)
		}
	}
	wantFault(t, strings.Repeat(" ", 999)+"a", api.ErrSyntax, 1000)
	wantFault(t, strings.Repeat(" ", 998)+"a", api.ErrTooMany, 999)
	// Blanks alone indent a line, and only those in front of its first token.
	wantFault(t, "\ta", api.ErrSyntax, 1)
	wantFault(t, "  \ta", api.ErrSyntax, 3)
	wantScan(t, "a               b", lexer.Scanned{Tokens: tokens(word("a", 1), word("b", 17))})
}

func TestNumbersOfTokens(t *testing.T) {
	for _, gap := range []string{"", " "} {
		for _, one := range []string{"(", "+", ":"} {
			width := len(one + gap)
			for n := 1; n <= lexer.MaxTokens; n++ {
				line := strings.Repeat(one+gap, n)
				heading := one == ":"
				if heading && n == 1 {
					wantFault(t, line, api.ErrSyntax, 1)
					continue
				}
				var list []api.Token
				for i := range n {
					list = append(list, sign(one, i*width+1))
				}
				if heading {
					list = list[:n-1]
				}
				wantScan(t, line, lexer.Scanned{Tokens: list, Heading: heading})
				wantScan(t, line+"#(((", lexer.Scanned{Tokens: list, Heading: heading, Comment: "((("})
				wantScan(t, line+"   ", lexer.Scanned{Tokens: list, Heading: heading})
			}
		}
	}
	full := strings.Repeat("a ", lexer.MaxTokens)
	for _, more := range []string{"a", ":", "(", "1", `"a"`, "a a a", "?", "\x00", "\xff", "007", "-", "12a", `"a`, `""`, strings.Repeat("a", 41), "9999999999999999", "a #", ": ?"} {
		wantFault(t, full+more, api.ErrTooMany, 2*lexer.MaxTokens+1)
		wantFault(t, full+"     "+more, api.ErrTooMany, 2*lexer.MaxTokens+6)
		wantFault(t, "  "+full+more, api.ErrTooMany, 2*lexer.MaxTokens+3)
	}
	// What is wrong before that counts first, what comes behind it does not count.
	wantFault(t, strings.Repeat("a ", lexer.MaxTokens-1)+"? a a", api.ErrSyntax, 2*lexer.MaxTokens-1)
	wantFault(t, strings.Repeat("a ", lexer.MaxTokens-1)+`"" a a`, api.ErrName, 2*lexer.MaxTokens-1)
	if s, f := lexer.Scan(strings.Repeat("a ", lexer.MaxTokens-1) + ":"); f != (api.Fault{}) || len(s.Tokens) != lexer.MaxTokens-1 || !s.Heading {
		t.Errorf("Scan of a heading with the greatest number of tokens: %v, %v", s, f)
	}
	if s, f := lexer.Scan(strings.Repeat("a ", lexer.MaxTokens-1) + ": # c"); f != (api.Fault{}) || len(s.Tokens) != lexer.MaxTokens-1 || !s.Heading || s.Comment != " c" {
		t.Errorf("Scan of a heading with a comment: %v, %v", s, f)
	}
}

// TestAllBytes looks at each byte alone, behind a token, behind a letter, a digit and a -, and in a text.
func TestAllBytes(t *testing.T) {
	for b := range 256 {
		c := string([]byte{byte(b)})
		isLetter, isDigit := strings.Contains(letters, c), strings.Contains(digits, c)
		switch {
		case isLetter:
			wantScan(t, c, lexer.Scanned{Tokens: tokens(word(c, 1))})
			wantScan(t, "( "+c, lexer.Scanned{Tokens: tokens(sign("(", 1), word(c, 3))})
		case isDigit:
			wantScan(t, c, lexer.Scanned{Tokens: tokens(number(int64(b-'0'), 1))})
		case c == ":":
			wantFault(t, c, api.ErrSyntax, 1)
			wantScan(t, "a"+c+"b", lexer.Scanned{Tokens: tokens(word("a", 1), sign(c, 2), word("b", 3))})
		case strings.Contains(signs, c):
			wantScan(t, c, lexer.Scanned{Tokens: tokens(sign(c, 1))})
			wantScan(t, "a"+c+"b", lexer.Scanned{Tokens: tokens(word("a", 1), sign(c, 2), word("b", 3))})
			wantScan(t, "1"+c, lexer.Scanned{Tokens: tokens(number(1, 1), sign(c, 2))})
		case c != " " && c != "#":
			wantFault(t, c, api.ErrSyntax, 1)
			wantFault(t, "  "+c+" 1", api.ErrSyntax, 3)
			wantFault(t, "( "+c, api.ErrSyntax, 3)
			if c != "_" && c != `"` {
				wantFault(t, "a"+c+" 1", api.ErrSyntax, 2)
				wantFault(t, "12"+c+" 1", api.ErrSyntax, 3)
			}
		}
		if isLetter || isDigit || c == "_" {
			wantScan(t, "a"+c+"z", lexer.Scanned{Tokens: tokens(word("a"+c+"z", 1))})
			wantScan(t, "Z"+c, lexer.Scanned{Tokens: tokens(word("Z"+c, 1))})
		}
		if isLetter || c == "_" {
			for _, n := range []string{"1", "-1", "0", "12", "-905"} {
				wantFault(t, "a "+n+c, api.ErrSyntax, 3)
			}
		}
		if !isDigit {
			wantFault(t, "a -"+c, api.ErrSyntax, 3)
		}
		inside := b >= 32 && b <= 126 && b != '"'
		for _, s := range []string{"a" + c + "b", c + "b", "a" + c, c} {
			switch ends := c == " " && s != "a b"; {
			case c == `"`:
			case inside && !ends:
				wantScan(t, `1 "`+s+`"`, lexer.Scanned{Tokens: tokens(number(1, 1), text(s, 3))})
			default:
				wantFault(t, `1 "`+s+`"`, api.ErrName, 3)
			}
		}
	}
}

func TestWords(t *testing.T) {
	for n := 1; n <= api.MaxLabel; n++ {
		for _, s := range []string{strings.Repeat("x", n), strings.Repeat("Q", n), "a" + strings.Repeat("_", n-1), "B" + strings.Repeat("9", n-1)} {
			wantScan(t, "  "+s+" 1", lexer.Scanned{Indent: 1, Tokens: tokens(word(s, 3), number(1, n+4))})
			wantScan(t, s, lexer.Scanned{Tokens: tokens(word(s, 1))})
		}
	}
	for n := api.MaxLabel + 1; n <= 900; n += n/3 + 1 {
		for _, s := range []string{strings.Repeat("x", n), strings.Repeat("Q", n), "a" + strings.Repeat("_", n-1), "B" + strings.Repeat("9", n-1)} {
			wantFault(t, "  "+s+" 1", api.ErrName, 3)
			wantFault(t, "1 "+s, api.ErrName, 3)
			wantFault(t, "1 "+s+"?", api.ErrName, 3)
		}
	}
	wantFault(t, strings.Repeat("x", api.MaxLabel+1), api.ErrName, 1)
	wantFault(t, "_a", api.ErrSyntax, 1)
	wantFault(t, "é", api.ErrSyntax, 1)
	wantFault(t, "aé", api.ErrSyntax, 2)
}

func TestNumbers(t *testing.T) {
	for s, n := range map[string]int64{
		"0": 0, "1": 1, "9": 9, "10": 10, "-1": -1, "-9": -9, "-10": -10, "100": 100, "907": 907, "-1000000": -1000000, "123456789": 123456789,
		"999999999999999": lexer.MaxNumber - 1, "-999999999999999": 1 - lexer.MaxNumber, "1000000000000000": lexer.MaxNumber, "-1000000000000000": -lexer.MaxNumber,
	} {
		wantScan(t, s, lexer.Scanned{Tokens: tokens(number(n, 1))})
		wantScan(t, "a "+s+" b", lexer.Scanned{Tokens: tokens(word("a", 1), number(n, 3), word("b", len(s)+4))})
		wantScan(t, s+",", lexer.Scanned{Tokens: tokens(number(n, 1), sign(",", len(s)+1))})
		wantScan(t, s+":", lexer.Scanned{Tokens: tokens(number(n, 1)), Heading: true})
	}
	for _, s := range []string{"1000000000000001", "1000000000000010", "1999999999999999", "2000000000000000", "9999999999999999", "10000000000000000", "9223372036854775807", "9223372036854775808", "18446744073709551615", "18446744073709551616", "18446744073709551617", "100000000000000000000", "340282366920938463463374607431768211457", strings.Repeat("9", 900), "1" + strings.Repeat("0", 900)} {
		for _, minus := range []string{"", "-"} {
			wantFault(t, minus+s, api.ErrRange, 1)
			wantFault(t, "a "+minus+s+" ?", api.ErrRange, 3)
			wantFault(t, "a "+minus+s+"?", api.ErrRange, 3)
			// What is no number is not too great.
			wantFault(t, "a "+minus+s+"a", api.ErrSyntax, 3)
			wantFault(t, "a "+minus+s+"_", api.ErrSyntax, 3)
			wantFault(t, "a "+minus+"0"+s, api.ErrSyntax, 3)
		}
	}
	for _, s := range []string{"00", "01", "007", "000000", "-0", "-00", "-01", "-007", "0" + strings.Repeat("9", 900), "-", "--1", "- 1", "-a", "-_", "-(", `-"a"`, "-#", "-:", "12a", "12_", "12A3", "0a", "0_", "0x10", "1e5", "-1z", "-12_3", "00a"} {
		wantFault(t, s, api.ErrSyntax, 1)
		wantFault(t, "a "+s, api.ErrSyntax, 3)
		wantFault(t, "a "+s+" b", api.ErrSyntax, 3)
	}
	wantFault(t, "1.5", api.ErrSyntax, 2)
	wantFault(t, "1-", api.ErrSyntax, 2)
	wantFault(t, "5 -0", api.ErrSyntax, 3)
	wantScan(t, "1-2-3", lexer.Scanned{Tokens: tokens(number(1, 1), number(-2, 2), number(-3, 4))})
	wantScan(t, "0-1", lexer.Scanned{Tokens: tokens(number(0, 1), number(-1, 2))})
	wantScan(t, "1 2+3", lexer.Scanned{Tokens: tokens(number(1, 1), number(2, 3), sign("+", 4), number(3, 5))})
}

func TestTexts(t *testing.T) {
	for n := 1; n <= api.MaxLabel; n++ {
		s := strings.Repeat("~", n)
		wantScan(t, `"`+s+`" b`, lexer.Scanned{Tokens: tokens(text(s, 1), word("b", n+4))})
	}
	for _, s := range []string{"a", "a b", "!", "12", "-0", "007", "a  b", "(:)", "#", "# a", "_", "A.B;c?", "'x'"} {
		wantScan(t, `"`+s+`"`, lexer.Scanned{Tokens: tokens(text(s, 1))})
		wantScan(t, `a"`+s+`":`, lexer.Scanned{Tokens: tokens(word("a", 1), text(s, 2)), Heading: true})
	}
	for _, s := range []string{"", " ", "  ", " a", "a ", " a ", strings.Repeat("~", 41), strings.Repeat("~", 900), "\x00", "a\tb", "a\nb", "\x1f", "\x7f", "\x80", "\xff", "é", strings.Repeat(" ", 40)} {
		wantFault(t, `"`+s+`"`, api.ErrName, 1)
		wantFault(t, `a "`+s+`" b`, api.ErrName, 3)
		wantFault(t, `a "`+s+`" ?`, api.ErrName, 3)
	}
	for _, line := range []string{`"`, `"a`, `"a b`, `"#`, `" `, `"` + strings.Repeat("a", 900), "\"\x00", "\"a:", `"12a`} {
		wantFault(t, line, api.ErrSyntax, 1)
		wantFault(t, "x "+line, api.ErrSyntax, 3)
		wantFault(t, `"a"`+line, api.ErrSyntax, 4)
	}
	wantFault(t, `"a" "" "`, api.ErrName, 5)
	wantFault(t, `"a"b"c`, api.ErrSyntax, 5)
}

// TestFirstFault has lines with several faults.
func TestFirstFault(t *testing.T) {
	long, great := strings.Repeat("a", 41), "1000000000000001"
	bad := map[string]api.Errno{"?": api.ErrSyntax, "007": api.ErrSyntax, "-": api.ErrSyntax, "12a": api.ErrSyntax, `""`: api.ErrName, long: api.ErrName, great: api.ErrRange, `" "`: api.ErrName}
	for first, code := range bad {
		for second := range bad {
			wantFault(t, "a "+first+" "+second, code, 3)
			wantFault(t, first+" "+second+" :", code, 1)
			wantFault(t, ": "+first+" "+second, code, 3)
			wantFault(t, "    "+first+" # "+second, code, 5)
		}
	}
	wantFault(t, `? "a`, api.ErrSyntax, 1)
	wantFault(t, great+` "a`, api.ErrRange, 1)
	for n := range 20 {
		blanks := strings.Repeat(" ", n)
		for _, rest := range []string{":", ": ", ":   # a", ":#"} {
			code := api.ErrSyntax
			if n%2 == 0 && n > 2*api.MaxIndent {
				code = api.ErrTooMany
			}
			wantFault(t, blanks+rest, code, n+1)
		}
	}
}

func TestLines(t *testing.T) {
	for source, want := range map[string][]string{
		"": {}, "a": {"a"}, "\n": {""}, "a\n": {"a"}, "\na": {"", "a"}, "\n\n": {"", ""}, "a\nb": {"a", "b"}, "a\nb\n": {"a", "b"}, "a\n\nb": {"a", "", "b"}, "a\n\n": {"a", ""}, "\n\n\n": {"", "", ""},
		" ": {" "}, "a\n ": {"a", " "}, "a\r\nb\r\n": {"a\r", "b\r"}, "\r": {"\r"}, "a\x00b\xff\n?": {"a\x00b\xff", "?"}, "a\vb\fc\u2028d\u0085": {"a\vb\fc\u2028d\u0085"}, `"a` + "\n" + `b"`: {`"a`, `b"`}, "#\n#": {"#", "#"}, "a\\nb": {"a\\nb"},
	} {
		if lines, e := lexer.Lines(source); !slices.Equal(lines, want) || e != api.OK {
			t.Errorf("Lines of %q: %q, %d", source, lines, e)
		}
	}
}

func TestLongSources(t *testing.T) {
	most := api.MaxSource
	for _, c := range []struct {
		source string
		lines  int
	}{
		{strings.Repeat("x", most), 1}, {strings.Repeat("\n", most), most}, {strings.Repeat("x", most-1) + "\n", 1}, {"\n" + strings.Repeat("x", most-1), 2}, {strings.Repeat("a\n", most/2), most / 2}, {strings.Repeat("\n", most-1) + "x", most},
	} {
		lines, e := lexer.Lines(c.source)
		if len(lines) != c.lines || e != api.OK || strings.TrimSuffix(c.source, "\n") != strings.Join(lines, "\n") {
			t.Errorf("Lines of a source of %d bytes: %d lines, %d", len(c.source), len(lines), e)
		}
		for _, more := range []string{"\n", "x", "\nx\n"} {
			if lines, e := lexer.Lines(c.source + more); len(lines) != 0 || e != api.ErrTooMany {
				t.Errorf("Lines of a source of %d bytes: %d lines, %d", len(c.source+more), len(lines), e)
			}
		}
	}
}

// bytesOf are all bytes for which a condition holds.
func bytesOf(holds func(b byte) bool) string {
	var list []byte
	for b := range 256 {
		if holds(byte(b)) {
			list = append(list, byte(b))
		}
	}
	return string(list)
}

func TestNamesAndLabels(t *testing.T) {
	small := bytesOf(func(b byte) bool { return b >= 'a' && b <= 'z' })
	inLabels := bytesOf(func(b byte) bool { return b >= 32 && b <= 126 && b != 34 })
	for b := range 256 {
		c := string([]byte{byte(b)})
		first, other := strings.Contains(small, c), strings.Contains(small+digits+"_", c)
		for s, want := range map[string]bool{c: first, c + "a": first, "a" + c: other, "a" + c + "b": other, "z" + strings.Repeat(c, 23): other, strings.Repeat("a", 23) + c: other} {
			if lexer.Name(s) != want {
				t.Errorf("Name of %q: %v", s, !want)
			}
		}
		inside := strings.Contains(inLabels, c)
		end := inside && c != " "
		for s, want := range map[string]bool{c: end, c + "a": end, "a" + c: end, "a" + c + "b": inside, strings.Repeat("a", 39) + c: end, c + strings.Repeat("a", 39): end, "a" + strings.Repeat(c, 38) + "b": inside} {
			if lexer.Label(s) != want {
				t.Errorf("Label of %q: %v", s, !want)
			}
		}
	}
	for n := range 100 {
		if s := strings.Repeat("a", n); lexer.Name(s) != (n >= 1 && n <= api.MaxName) || lexer.Label(s) != (n >= 1 && n <= api.MaxLabel) {
			t.Errorf("%d letters: %v, %v", n, lexer.Name(s), lexer.Label(s))
		}
		if s := "a" + strings.Repeat("7", n); lexer.Name(s) != (n < api.MaxName) {
			t.Errorf("Name of %q: %v", s, lexer.Name(s))
		}
		if s := strings.Repeat("-", n); lexer.Label(s) != (n >= 1 && n <= api.MaxLabel) {
			t.Errorf("Label of %q: %v", s, lexer.Label(s))
		}
	}
	// 14 letters of two bytes each are too long, whatever they are.
	if lexer.Name(strings.Repeat("é", 14)) || lexer.Label(strings.Repeat("é", 2)) || lexer.Name(strings.Repeat("a", 1<<20)) || lexer.Label(strings.Repeat("a", 1<<20)) {
		t.Error("names and labels that are none")
	}
}

// someTokens are tokens of all kinds, and whether they are valid.
func someTokens() map[api.Token]bool {
	list := map[api.Token]bool{{}: false}
	spellings := []string{"", "a", "Z", "a1_", "_a", "1a", "a b", "a-b", "12", "-1", " ", " a", "a ", `"`, `a"b`, "\x00", "é", "\xff", "::", "((", "()", ":(", "a:", "#", "-", "*", "_", ".", strings.Repeat("a", 24), strings.Repeat("a", 25), strings.Repeat("a", 40), strings.Repeat("a", 41), strings.Repeat("B", 40), strings.Repeat("(", 40), strings.Repeat("(", 41), "a" + strings.Repeat(" ", 38) + "b"}
	for _, c := range signs {
		spellings = append(spellings, string(c))
	}
	for _, s := range spellings {
		isWord := s != "" && len(s) <= 40 && strings.Trim(s, letters+digits+"_") == "" && strings.Contains(letters, s[:1])
		for kind := -1; kind <= 5; kind++ {
			for _, n := range []int64{0, 1, -1, math.MinInt64} {
				is := false
				switch kind {
				case api.TokWord:
					is = isWord && n == 0
				case api.TokNumber:
					is = s == "" && n != math.MinInt64
				case api.TokText:
					is = lexer.Label(s) && n == 0
				case api.TokSign:
					is = len(s) == 1 && strings.Contains(signs, s) && n == 0
				}
				list[api.Token{Kind: kind, Text: s, N: n}] = is
			}
		}
	}
	for n, is := range map[int64]bool{0: true, 7: true, lexer.MaxNumber - 1: true, lexer.MaxNumber: true, lexer.MaxNumber + 1: false, math.MaxInt64: false} {
		for _, m := range []int64{n, -n} {
			list[api.Token{Kind: api.TokNumber, N: m}] = is
			list[api.Token{Kind: api.TokNumber, Text: "7", N: m}] = false
			list[api.Token{Kind: api.TokWord, Text: "a", N: m}] = m == 0
		}
	}
	return list
}

func TestValidAndSpell(t *testing.T) {
	for token, want := range someTokens() {
		for _, at := range []int{0, 1, 17, -1, 1001, math.MaxInt, math.MinInt} {
			token.At = at
			if lexer.Valid(token) != want {
				t.Errorf("Valid of %+v: %v", token, !want)
			}
			s, e := lexer.Spell(token)
			if !want {
				if s != "" || e != api.ErrSyntax {
					t.Errorf("Spell of %+v: %q, %d", token, s, e)
				}
				continue
			}
			spelling := map[int]string{api.TokWord: token.Text, api.TokNumber: fmt.Sprint(token.N), api.TokText: `"` + token.Text + `"`, api.TokSign: token.Text}[token.Kind]
			if s != spelling || e != api.OK {
				t.Errorf("Spell of %+v: %q, %d, not %q", token, s, e, spelling)
			}
			token.At = 1
			wantToken := token
			wantToken.At = 3
			wantScan(t, s+" x", lexer.Scanned{Tokens: tokens(token, word("x", len(s)+2))})
			wantScan(t, "  "+s+" x", lexer.Scanned{Indent: 1, Tokens: tokens(wantToken, word("x", len(s)+4))})
		}
	}
}

// TestMemory changes the results of a call and looks for changes in those of another one.
func TestMemory(t *testing.T) {
	line := strings.Repeat("a 1 ", 32)
	first, _ := lexer.Scan(line)
	second, _ := lexer.Scan(line)
	for i := range first.Tokens {
		first.Tokens[i] = api.Token{}
	}
	first.Tokens = append(first.Tokens[:5], word("other", 1))
	third, _ := lexer.Scan(line)
	if !slices.Equal(second.Tokens, third.Tokens) || second.Tokens[0] != word("a", 1) || second.Tokens[63] != number(1, 127) {
		t.Errorf("Scan: %v, %v", second, third)
	}
	rows, _ := lexer.Lines("a\nb\nc")
	others, _ := lexer.Lines("a\nb\nc")
	rows[1] = "x"
	if !slices.Equal(others, []string{"a", "b", "c"}) {
		t.Errorf("Lines: %q", others)
	}
}
