package fraction_test

import (
	"regexp"
	"strconv"
	"strings"
	"testing"

	"gangsaw/api"
	"gangsaw/fraction"
)

func TestText(t *testing.T) {
	for s, f := range map[string]api.Frac{
		"-3/2": fr(-3, 2), "0": fr(0, 1), "1": fr(1, 1), "-1": fr(-1, 1), "7": fr(7, 1), "10/7": fr(10, 7), "1/10": fr(1, 10), "-100/99": fr(-100, 99),
		"999999999999999999": fr(top, 1), "-999999999999999999": fr(-top, 1), "1/999999999999999999": fr(1, top), "-1/999999999999999999": fr(-1, top),
		"999999999999999999/999999999999999998": fr(top, top-1), "-999999999999999998/999999999999999999": fr(1-top, top),
	} {
		if got, e := fraction.Text(f); got != s || e != api.OK {
			t.Errorf("Text of %v: %q, %d", f, got, e)
		}
		if got, e := fraction.Parse(s); got != f || e != api.OK {
			t.Errorf("Parse of %q: %v, %d", s, got, e)
		}
	}
}

func TestParseOfText(t *testing.T) {
	for _, f := range someFractions() {
		s, e := fraction.Text(f)
		if e != api.OK {
			t.Errorf("Text of %v: %q, %d", f, s, e)
		}
		if got, e := fraction.Parse(s); got != f || e != api.OK {
			t.Errorf("Parse of %q: %v, %d", s, got, e)
		}
	}
}

func TestParseOfOtherTexts(t *testing.T) {
	for _, s := range []string{
		"2/4", "02", "1/1", "", "-", "/", "-/", "1/", "/1", "/2", "-/2", "-0", "+1", "+1/2", "1/+2", "0/1", "0/2", "0/0", "1/0", "-0/1", "1/-2", "-1/-2", "--1", "00", "1/02", "-01/2", "6/3",
		" 1", "1 ", "1/ 2", "1 /2", "1/2/3", "1/2/", "1//2", "1.5", "1e3", "0x10", "1_0", "1,5", "a", "1/a", "a/2", "1\x00", "\xff", "1\n", "½", "١", "1/2\x00",
		"1000000000000000000", "-1000000000000000000", "1/1000000000000000000", "1000000000000000000/999999999999999999", "9223372036854775807", "9223372036854775808", "-9223372036854775808",
		"18446744073709551617", "1/18446744073709551617", "18446744073709551617/2", "-9223372036854775808/9223372036854775807", "999999999999999999/999999999999999999",
		strings.Repeat("9", 1000), "1/" + strings.Repeat("9", 1000), strings.Repeat("0", 1000) + "1", strings.Repeat("-", 1000), strings.Repeat("/", 1000), strings.Repeat("1/", 1000),
	} {
		if got, e := fraction.Parse(s); got != fr(0, 0) || e != api.ErrSyntax {
			t.Errorf("Parse of %q: %v, %d", s, got, e)
		}
	}
}

// shortTexts calls a function with all texts of few letters.
func shortTexts(letters string, length int, f func(s string)) {
	var extend func(s string)
	extend = func(s string) {
		f(s)
		if len(s) < length {
			for i := range len(letters) {
				extend(s + letters[i:i+1])
			}
		}
	}
	extend("")
}

func TestParseOfShortTexts(t *testing.T) {
	form := regexp.MustCompile(`^(-?[1-9][0-9]*|0)(/([1-9][0-9]*))?$`)
	shortTexts("-+/0126 ", 5, func(s string) {
		want, e := fr(0, 0), api.ErrSyntax
		if parts := form.FindStringSubmatch(s); parts != nil {
			f := fr(0, 1)
			f.Num, _ = strconv.ParseInt(parts[1], 10, 64)
			if parts[3] != "" {
				f.Den, _ = strconv.ParseInt(parts[3], 10, 64)
			}
			if fraction.Valid(f) && parts[3] != "1" {
				want, e = f, api.OK
			}
		}
		if got, code := fraction.Parse(s); got != want || code != e {
			t.Errorf("Parse of %q: %v, %d, not %v, %d", s, got, code, want, e)
		}
	})
}
