package fraction

import (
	"strconv"
	"strings"

	"gangsaw/api"
)

// Text returns the text of a fraction.
func Text(a api.Frac) (string, api.Errno) {
	if !Valid(a) {
		return "", api.ErrInvalid
	}
	return text(a), api.OK
}

// Parse returns the fraction of a text.
func Parse(s string) (api.Frac, api.Errno) {
	num, den, divided := strings.Cut(s, "/")
	if !divided {
		den = "1"
	}
	f := api.Frac{Num: number(num), Den: number(den)}
	// Signs, zeros in front and terms that are not the lowest ones have other texts.
	if !Valid(f) || text(f) != s {
		return api.Frac{}, api.ErrSyntax
	}
	return f, api.OK
}

func text(a api.Frac) string {
	s := strconv.FormatInt(a.Num, 10)
	if a.Den != 1 {
		s += "/" + strconv.FormatInt(a.Den, 10)
	}
	return s
}

// number returns 0 for what is no number, whose text differs.
func number(s string) int64 {
	n, err := strconv.ParseInt(s, 10, 64)
	if err != nil {
		return 0
	}
	return n
}
