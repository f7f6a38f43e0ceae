package fraction_test

import (
	"math/big"
	"math/rand"
	"testing"

	"gangsaw/api"
	"gangsaw/fraction"
)

// wantSimplest tries the range on both sides of 0.
func wantSimplest(t *testing.T, a, b, want api.Frac) {
	t.Helper()
	if got, e := fraction.Simplest(a, b); got != want || e != api.OK {
		t.Errorf("Simplest from %v to %v: %v, %d, not %v", a, b, got, e, want)
	}
	a.Num, b.Num, want.Num = -a.Num, -b.Num, -want.Num
	if got, e := fraction.Simplest(b, a); got != want || e != api.OK {
		t.Errorf("Simplest from %v to %v: %v, %d, not %v", b, a, got, e, want)
	}
}

func TestSimplest(t *testing.T) {
	for _, c := range [][3]api.Frac{
		{fr(3, 10), fr(2, 5), fr(1, 3)}, {fr(9, 10), fr(11, 10), fr(1, 1)}, {fr(-7, 2), fr(-3, 2), fr(-2, 1)}, {fr(-1, 1), fr(5, 1), fr(0, 1)},
		{fr(0, 1), fr(5, 1), fr(0, 1)}, {fr(-1, 9), fr(0, 1), fr(0, 1)}, {fr(0, 1), fr(0, 1), fr(0, 1)}, {fr(-1, top), fr(1, top), fr(0, 1)}, {fr(-top, 1), fr(top, 1), fr(0, 1)},
		{fr(2, 1), fr(9, 1), fr(2, 1)}, {fr(5, 2), fr(9, 1), fr(3, 1)}, {fr(5, 2), fr(3, 1), fr(3, 1)}, {fr(5, 2), fr(14, 5), fr(5, 2)}, {fr(12, 5), fr(5, 2), fr(5, 2)},
		{fr(355, 113), fr(22, 7), fr(22, 7)}, {fr(333, 106), fr(355, 113), fr(333, 106)}, {fr(157, 50), fr(63, 20), fr(22, 7)},
		{fr(1, top), fr(1, 1), fr(1, 1)}, {fr(1, top), fr(1, top-1), fr(1, top-1)}, {fr(1, top), fr(1, 3), fr(1, 3)}, {fr(-top, 1), fr(-1, top), fr(-1, 1)},
		{fr(top-1, top), fr(1, 1), fr(1, 1)}, {fr(top-2, top-1), fr(top-1, top), fr(top-2, top-1)}, {fr(1, 2), fr(top-1, top), fr(1, 2)}, {fr(top-1, top), fr(top, top-1), fr(1, 1)},
		{fr(top, 2), fr(top, 1), fr(top/2+1, 1)}, {fr(top-1, 1), fr(top, 1), fr(top-1, 1)}, {fr(top, top-1), fr(top-1, top-2), fr(top-1, top-2)},
	} {
		wantSimplest(t, c[0], c[1], c[2])
	}
}

func TestSimplestOfInvertedRanges(t *testing.T) {
	for _, c := range [][2]api.Frac{{fr(1, 1), fr(0, 1)}, {fr(2, 5), fr(3, 10)}, {fr(-3, 2), fr(-7, 2)}, {fr(1, top-1), fr(1, top)}, {fr(top, 1), fr(-top, 1)}, {fr(top-1, top), fr(top-2, top-1)}} {
		if got, e := fraction.Simplest(c[0], c[1]); got != fr(0, 0) || e != api.ErrInvalid {
			t.Errorf("Simplest from %v to %v: %v, %d", c[0], c[1], got, e)
		}
	}
}

func TestSimplestOfOneFraction(t *testing.T) {
	for _, a := range someFractions() {
		wantSimplest(t, a, a, a)
	}
}

// slowSimplest looks at all fractions from a to b, whose numbers are at most 10, with one denominator after the other.
func slowSimplest(a, b api.Frac) api.Frac {
	for den := int64(1); ; den++ {
		best, found := fr(0, den), false
		for num := -10 * den; num <= 10*den; num++ {
			inside := a.Num*den <= num*a.Den && num*b.Den <= b.Num*den
			if inside && (!found || max(num, -num) < max(best.Num, -best.Num)) {
				best, found = fr(num, den), true
			}
		}
		if found {
			return best
		}
	}
}

func TestSimplestAgainstAllFractions(t *testing.T) {
	list := small(10)
	for _, a := range list {
		for _, b := range list {
			got, e := fraction.Simplest(a, b)
			if a.Num*b.Den > b.Num*a.Den {
				if got != fr(0, 0) || e != api.ErrInvalid {
					t.Errorf("Simplest from %v to %v: %v, %d", a, b, got, e)
				}
			} else if want := slowSimplest(a, b); got != want || e != api.OK {
				t.Errorf("Simplest from %v to %v: %v, %d, not %v", a, b, got, e, want)
			}
		}
	}
}

// longFractions are positive, with a greater denominator than 1: some random ones, and ones whose continued fractions are longest.
func longFractions() []api.Frac {
	random := rand.New(rand.NewSource(7))
	var list []api.Frac
	for range 300 {
		num, den := random.Int63n(fraction.Bound)>>random.Intn(59)+1, random.Int63n(fraction.Bound)>>random.Intn(59)+1
		if f, e := fractionOf(big.NewRat(num, den)); e == api.OK && f.Den > 1 {
			list = append(list, f)
		}
	}
	for a, b := int64(2), int64(3); b < fraction.Bound; a, b = b, a+b {
		list = append(list, fr(a, b), fr(b, a))
	}
	return list
}

// mix returns the fraction between two neighbours with so many times the terms of each, if it is within the bounds.
func mix(a api.Frac, times int64, b api.Frac, more int64) (api.Frac, bool) {
	sum := func(x, y int64) *big.Int {
		left := new(big.Int).Mul(big.NewInt(x), big.NewInt(times))
		return left.Add(left, new(big.Int).Mul(big.NewInt(y), big.NewInt(more)))
	}
	num, den := sum(a.Num, b.Num), sum(a.Den, b.Den)
	bound := big.NewInt(fraction.Bound)
	return fr(num.Int64(), den.Int64()), num.Cmp(bound) < 0 && den.Cmp(bound) < 0
}

// TestSimplestOfLongFractions makes ranges around x that end before its neighbours, the fractions with smaller denominators that are next to it: every fraction between these two has a denominator of at least their sum, which is that of x.
func TestSimplestOfLongFractions(t *testing.T) {
	tried := 0
	for _, x := range longFractions() {
		num, den := big.NewInt(x.Num), big.NewInt(x.Den)
		lowDen := new(big.Int).ModInverse(num, den)
		lowNum := new(big.Int).Mul(num, lowDen)
		lowNum.Sub(lowNum, big.NewInt(1)).Div(lowNum, den)
		low := fr(lowNum.Int64(), lowDen.Int64())
		high := fr(x.Num-low.Num, x.Den-low.Den)
		for _, times := range []int64{0, 1, 2, 9, 1000, 1000000000000} {
			for _, more := range []int64{0, 1, 3, 5000} {
				a, isA := mix(low, times, x, 1)
				b, isB := mix(high, more, x, 1)
				if isA && isB {
					wantSimplest(t, a, b, x)
					tried++
				}
			}
		}
	}
	if tried < 1000 {
		t.Errorf("only %d ranges", tried)
	}
}

func TestSimplestOfWiderRanges(t *testing.T) {
	list := small(4)
	for _, a := range list {
		for _, b := range list {
			inner, e := fraction.Simplest(a, b)
			if e != api.OK {
				continue
			}
			for _, c := range list {
				for _, d := range list {
					if fraction.Cmp(c, a) > 0 || fraction.Cmp(b, d) > 0 {
						continue
					}
					if outer, e := fraction.Simplest(c, d); outer.Den > inner.Den || e != api.OK {
						t.Errorf("Simplest from %v to %v: %v, from %v to %v: %v", a, b, inner, c, d, outer)
					}
				}
			}
		}
	}
}
