package fraction_test

import (
	"math"
	"math/big"
	"math/rand"
	"testing"

	"gangsaw/api"
	"gangsaw/fraction"
)

// top is the greatest numerator and the greatest denominator.
const top = fraction.Bound - 1

func fr(num, den int64) api.Frac {
	return api.Frac{Num: num, Den: den}
}

func rational(f api.Frac) *big.Rat {
	return big.NewRat(f.Num, f.Den)
}

// fractionOf returns what the document calls the fraction of a rational number, or ErrRange.
func fractionOf(r *big.Rat) (api.Frac, api.Errno) {
	bound := big.NewInt(fraction.Bound)
	if r.Num().CmpAbs(bound) >= 0 || r.Denom().Cmp(bound) >= 0 {
		return api.Frac{}, api.ErrRange
	}
	return fr(r.Num().Int64(), r.Denom().Int64()), api.OK
}

// noFractions are not in lowest terms, or beyond the bounds.
var noFractions = []api.Frac{
	fr(0, 0), fr(1, 0), fr(-1, 0), fr(0, 2), fr(0, -1), fr(2, 4), fr(-2, 4), fr(6, 3), fr(1, -1), fr(1, -2), fr(-3, -2),
	fr(fraction.Bound, 1), fr(-fraction.Bound, 1), fr(1, fraction.Bound), fr(-1, fraction.Bound), fr(fraction.Bound, fraction.Bound),
	fr(fraction.Bound+1, fraction.Bound), fr(top, top), fr(0, top), fr(1, -top), fr(-top, -1),
	fr(math.MaxInt64, 1), fr(1, math.MaxInt64), fr(math.MinInt64, 1), fr(1, math.MinInt64), fr(math.MinInt64, math.MinInt64), fr(math.MinInt64, -1),
	fr(math.MaxInt64, math.MinInt64), fr(math.MinInt64, math.MaxInt64), fr(0, math.MinInt64), fr(0, math.MaxInt64), fr(math.MinInt64, 0),
}

// small are all fractions with numbers up to n.
func small(n int64) []api.Frac {
	var list []api.Frac
	for den := int64(1); den <= n; den++ {
		for num := -n; num <= n; num++ {
			if f, e := fractionOf(big.NewRat(num, den)); e == api.OK && f == fr(num, den) {
				list = append(list, f)
			}
		}
	}
	return list
}

// ends are fractions with numbers next to the bound, or with products next to it.
var ends = []api.Frac{
	fr(top, 1), fr(-top, 1), fr(1, top), fr(-1, top), fr(top, top-1), fr(-top, top-1), fr(top-1, top), fr(1-top, top), fr(top-1, 1), fr(1, top-1),
	fr(top-2, top), fr(top-2, top-1), fr(2, top), fr(top, 2), fr(-top, 2), fr(top/3, 2), fr(2, top/3), fr(top/2, 1), fr(1, top/2), fr(-top/2, 1),
	fr(1000000000, 999999999), fr(999999999, 1000000000), fr(1000000001, 999999999), fr(-999999999, 1000000001), fr(1000000000, 1), fr(1, 1000000000),
}

// someFractions are small ones, those at the ends, and ones of all lengths.
func someFractions() []api.Frac {
	random := rand.New(rand.NewSource(5))
	list := append(small(3), ends...)
	for range 150 {
		num := random.Int63n(fraction.Bound) >> random.Intn(60)
		den := random.Int63n(fraction.Bound)>>random.Intn(60) + 1
		if random.Intn(2) == 0 {
			num = -num
		}
		if f, e := fractionOf(big.NewRat(num, den)); e == api.OK {
			list = append(list, f)
		}
	}
	return list
}

func want(t *testing.T, what string, got api.Frac, e api.Errno, r *big.Rat) {
	t.Helper()
	if f, code := fractionOf(r); got != f || e != code {
		t.Errorf("%s: %v, %d, not %v, %d", what, got, e, f, code)
	}
}

func TestSignatures(t *testing.T) {
	type two = func(a, b api.Frac) (api.Frac, api.Errno)
	var _ func(api.Frac) bool = fraction.Valid
	var _ func(num, den int64) (api.Frac, api.Errno) = fraction.New
	var _, _, _, _, _ two = fraction.Add, fraction.Sub, fraction.Mul, fraction.Div, fraction.Simplest
	var _ func(api.Frac, int) (api.Frac, api.Errno) = fraction.Power
	var _ func(a, b api.Frac) int = fraction.Cmp
	var _, _ func(api.Frac) int64 = fraction.Floor, fraction.Round
	var _ func(api.Frac) (string, api.Errno) = fraction.Text
	var _ func(string) (api.Frac, api.Errno) = fraction.Parse
	if fraction.Bound != 1000000000000000000 {
		t.Error("Bound")
	}
}

func TestValid(t *testing.T) {
	for _, f := range someFractions() {
		if !fraction.Valid(f) {
			t.Errorf("%v is a fraction", f)
		}
	}
	for _, f := range noFractions {
		if fraction.Valid(f) {
			t.Errorf("%v is no fraction", f)
		}
	}
	for num := int64(-12); num <= 12; num++ {
		for den := int64(-12); den <= 12; den++ {
			lowest := den >= 1
			for n := int64(2); n <= 12; n++ {
				lowest = lowest && (num%n != 0 || den%n != 0)
			}
			if fraction.Valid(fr(num, den)) != lowest {
				t.Errorf("Valid of %d/%d is %v", num, den, !lowest)
			}
		}
	}
}

func TestNew(t *testing.T) {
	for _, c := range []struct {
		num, den int64
		want     api.Frac
		e        api.Errno
	}{
		{6, -4, fr(-3, 2), api.OK}, {5, 2, fr(5, 2), api.OK}, {-6, -4, fr(3, 2), api.OK}, {0, -7, fr(0, 1), api.OK}, {0, 7, fr(0, 1), api.OK}, {7, 7, fr(1, 1), api.OK},
		{top, 1, fr(top, 1), api.OK}, {top, -1, fr(-top, 1), api.OK}, {-1, -top, fr(1, top), api.OK}, {top, top, fr(1, 1), api.OK},
		{fraction.Bound, 1, fr(0, 0), api.ErrRange}, {-fraction.Bound, 1, fr(0, 0), api.ErrRange}, {1, fraction.Bound, fr(0, 0), api.ErrRange}, {1, -fraction.Bound, fr(0, 0), api.ErrRange},
		{fraction.Bound, 2, fr(fraction.Bound/2, 1), api.OK}, {3, -3 * (fraction.Bound - 1), fr(-1, top), api.OK}, {fraction.Bound, -fraction.Bound, fr(-1, 1), api.OK},
		{math.MinInt64, math.MinInt64, fr(1, 1), api.OK}, {math.MinInt64, math.MaxInt64, fr(0, 0), api.ErrRange}, {math.MinInt64, 1, fr(0, 0), api.ErrRange}, {math.MinInt64, -1, fr(0, 0), api.ErrRange},
		{math.MinInt64, 16, fr(-1<<59, 1), api.OK}, {math.MinInt64, -16, fr(1<<59, 1), api.OK}, {16, math.MinInt64, fr(-1, 1<<59), api.OK}, {-16, math.MinInt64, fr(1, 1<<59), api.OK},
		{0, math.MinInt64, fr(0, 1), api.OK}, {math.MaxInt64, math.MaxInt64, fr(1, 1), api.OK}, {math.MaxInt64, 1, fr(0, 0), api.ErrRange},
		{0, 0, fr(0, 0), api.ErrInvalid}, {1, 0, fr(0, 0), api.ErrInvalid}, {math.MaxInt64, 0, fr(0, 0), api.ErrInvalid}, {math.MinInt64, 0, fr(0, 0), api.ErrInvalid},
	} {
		if got, e := fraction.New(c.num, c.den); got != c.want || e != c.e {
			t.Errorf("New of %d, %d: %v, %d, not %v, %d", c.num, c.den, got, e, c.want, c.e)
		}
	}
}

func TestNewAgainstGreatNumbers(t *testing.T) {
	random := rand.New(rand.NewSource(6))
	numbers := []int64{1, -1, 2, 3, top, -top, fraction.Bound, fraction.Bound + 1, math.MinInt64, math.MaxInt64}
	for range 80 {
		numbers = append(numbers, (random.Int63()-random.Int63())>>random.Intn(60))
	}
	for _, num := range numbers {
		for _, den := range numbers {
			if den != 0 {
				got, e := fraction.New(num, den)
				want(t, "New", got, e, big.NewRat(num, den))
			}
		}
	}
}

func TestCalculationsOfExamples(t *testing.T) {
	check := func(what string, got api.Frac, e api.Errno, want api.Frac) {
		t.Helper()
		if got != want || e != api.OK {
			t.Errorf("%s: %v, %d, not %v", what, got, e, want)
		}
	}
	got, e := fraction.Add(fr(1, 3), fr(1, 6))
	check("1/3 + 1/6", got, e, fr(1, 2))
	got, e = fraction.Sub(fr(1, 2), fr(1, 6))
	check("1/2 - 1/6", got, e, fr(1, 3))
	got, e = fraction.Sub(fr(1, 6), fr(1, 6))
	check("1/6 - 1/6", got, e, fr(0, 1))
	got, e = fraction.Mul(fr(-2, 3), fr(9, 4))
	check("-2/3 * 9/4", got, e, fr(-3, 2))
	got, e = fraction.Mul(fr(0, 1), fr(-9, 4))
	check("0 * -9/4", got, e, fr(0, 1))
	got, e = fraction.Div(fr(1, 3), fr(2, 3))
	check("1/3 / (2/3)", got, e, fr(1, 2))
	got, e = fraction.Div(fr(1, 3), fr(-2, 3))
	check("1/3 / (-2/3)", got, e, fr(-1, 2))
	got, e = fraction.Div(fr(0, 1), fr(-2, 3))
	check("0 / (-2/3)", got, e, fr(0, 1))
	got, e = fraction.Power(fr(2, 3), 3)
	check("(2/3)^3", got, e, fr(8, 27))
}

func TestCalculationsAtTheEnds(t *testing.T) {
	add, sub, mul, div := fraction.Add, fraction.Sub, fraction.Mul, fraction.Div
	for i, c := range []struct {
		f       func(a, b api.Frac) (api.Frac, api.Errno)
		a, b    api.Frac
		want    api.Frac
		inRange bool
	}{
		{add, fr(top, 1), fr(1, 1), fr(0, 0), false}, {add, fr(top-1, 1), fr(1, 1), fr(top, 1), true}, {add, fr(-top, 1), fr(-1, 1), fr(0, 0), false}, {add, fr(top, 1), fr(-top, 1), fr(0, 1), true},
		{sub, fr(-top, 1), fr(1, 1), fr(0, 0), false}, {sub, fr(1-top, 1), fr(1, 1), fr(-top, 1), true}, {sub, fr(top, 1), fr(-1, 1), fr(0, 0), false}, {sub, fr(top, top-1), fr(1, 1), fr(1, top-1), true},
		{add, fr(1, top), fr(1, top), fr(2, top), true}, {add, fr(1, top), fr(1, top-1), fr(0, 0), false}, {add, fr(1, top), fr(2, top), fr(1, top/3), true}, {add, fr(top-1, top), fr(1, top), fr(1, 1), true},
		{sub, fr(1, top), fr(1, top), fr(0, 1), true}, {sub, fr(1, top-1), fr(1, top), fr(0, 0), false}, {add, fr(1, 1000000000), fr(1, 999999999), fr(1999999999, 999999999000000000), true},
		{mul, fr(1000000000, 1), fr(1000000000, 1), fr(0, 0), false}, {mul, fr(1000000000, 1), fr(999999999, 1), fr(999999999000000000, 1), true}, {mul, fr(1, 1000000000), fr(-1, 1000000000), fr(0, 0), false},
		{mul, fr(top, top-1), fr(top-1, top), fr(1, 1), true}, {mul, fr(1000000001, 1), fr(999999999, 1), fr(top, 1), true}, {mul, fr(-1, 1000000001), fr(1, 999999999), fr(-1, top), true},
		{div, fr(top, top-1), fr(top, top-1), fr(1, 1), true}, {div, fr(top, 1), fr(1, top), fr(0, 0), false}, {div, fr(1, top), fr(-top, 1), fr(0, 0), false}, {div, fr(1, 1), fr(-top, 1), fr(-1, top), true},
		{div, fr(1, 1), fr(-1, top), fr(-top, 1), true}, {div, fr(-999999999, 1), fr(-1, 1000000001), fr(top, 1), true}, {div, fr(top, 1), fr(top, 1), fr(1, 1), true},
	} {
		e := api.OK
		if !c.inRange {
			e = api.ErrRange
		}
		if got, code := c.f(c.a, c.b); got != c.want || code != e {
			t.Errorf("case %d, %v and %v: %v, %d, not %v, %d", i, c.a, c.b, got, code, c.want, e)
		}
	}
}

func TestCalculationsAgainstGreatNumbers(t *testing.T) {
	list := someFractions()
	for _, a := range list {
		for _, b := range list {
			x, y := rational(a), rational(b)
			got, e := fraction.Add(a, b)
			want(t, "Add", got, e, new(big.Rat).Add(x, y))
			got, e = fraction.Sub(a, b)
			want(t, "Sub", got, e, new(big.Rat).Sub(x, y))
			got, e = fraction.Mul(a, b)
			want(t, "Mul", got, e, new(big.Rat).Mul(x, y))
			got, e = fraction.Div(a, b)
			if b.Num != 0 {
				want(t, "Div", got, e, new(big.Rat).Quo(x, y))
			} else if got != fr(0, 0) || e != api.ErrInvalid {
				t.Errorf("Div of %v by 0: %v, %d", a, got, e)
			}
			if n := fraction.Cmp(a, b); n != x.Cmp(y) {
				t.Errorf("Cmp of %v and %v: %d", a, b, n)
			}
		}
	}
}

func TestInvalidArguments(t *testing.T) {
	functions := map[string]func(a, b api.Frac) (api.Frac, api.Errno){
		"Add": fraction.Add, "Sub": fraction.Sub, "Mul": fraction.Mul, "Div": fraction.Div, "Simplest": fraction.Simplest,
		"Power": func(a, b api.Frac) (api.Frac, api.Errno) {
			if fraction.Valid(a) {
				a = b
			}
			return fraction.Power(a, 0)
		},
	}
	for _, wrong := range noFractions {
		others := append([]api.Frac{fr(0, 1), fr(1, 1), fr(-3, 2), fr(top, 1), fr(1, top)}, noFractions...)
		for _, other := range others {
			for name, f := range functions {
				if got, e := f(wrong, other); got != fr(0, 0) || e != api.ErrInvalid {
					t.Errorf("%s of %v and %v: %v, %d", name, wrong, other, got, e)
				}
				if got, e := f(other, wrong); got != fr(0, 0) || e != api.ErrInvalid {
					t.Errorf("%s of %v and %v: %v, %d", name, other, wrong, got, e)
				}
			}
			if fraction.Cmp(wrong, other) != 0 || fraction.Cmp(other, wrong) != 0 {
				t.Errorf("Cmp of %v and %v is not 0", wrong, other)
			}
		}
		if fraction.Floor(wrong) != 0 || fraction.Round(wrong) != 0 {
			t.Errorf("Floor or Round of %v is not 0", wrong)
		}
		if s, e := fraction.Text(wrong); s != "" || e != api.ErrInvalid {
			t.Errorf("Text of %v: %q, %d", wrong, s, e)
		}
	}
}

func TestPower(t *testing.T) {
	for _, c := range []struct {
		a    api.Frac
		n    int
		want api.Frac
		e    api.Errno
	}{
		{fr(0, 1), 0, fr(1, 1), api.OK}, {fr(0, 1), 64, fr(0, 1), api.OK}, {fr(-1, 1), 63, fr(-1, 1), api.OK}, {fr(-1, 1), 64, fr(1, 1), api.OK},
		{fr(10, 1), 17, fr(100000000000000000, 1), api.OK}, {fr(10, 1), 18, fr(0, 0), api.ErrRange}, {fr(-1, 10), 17, fr(-1, 100000000000000000), api.OK}, {fr(1, 10), 18, fr(0, 0), api.ErrRange},
		{fr(2, 1), 59, fr(1<<59, 1), api.OK}, {fr(2, 1), 60, fr(0, 0), api.ErrRange}, {fr(2, 1), 64, fr(0, 0), api.ErrRange}, {fr(1, 2), 60, fr(0, 0), api.ErrRange},
		{fr(top, 1), 1, fr(top, 1), api.OK}, {fr(top, 1), 2, fr(0, 0), api.ErrRange}, {fr(top, 1), 0, fr(1, 1), api.OK}, {fr(1, top), 64, fr(0, 0), api.ErrRange},
		{fr(2, 3), -1, fr(0, 0), api.ErrInvalid}, {fr(2, 3), 65, fr(0, 0), api.ErrInvalid}, {fr(1, 1), math.MaxInt, fr(0, 0), api.ErrInvalid}, {fr(1, 1), math.MinInt, fr(0, 0), api.ErrInvalid},
		{fr(top, 1), 65, fr(0, 0), api.ErrInvalid}, {fr(2, 4), 65, fr(0, 0), api.ErrInvalid}, {fr(2, 4), 2, fr(0, 0), api.ErrInvalid},
	} {
		if got, e := fraction.Power(c.a, c.n); got != c.want || e != c.e {
			t.Errorf("Power of %v and %d: %v, %d, not %v, %d", c.a, c.n, got, e, c.want, c.e)
		}
	}
	for _, a := range someFractions() {
		power := big.NewRat(1, 1)
		for n := range 65 {
			got, e := fraction.Power(a, n)
			want(t, "Power", got, e, power)
			power.Mul(power, rational(a))
		}
	}
}

func TestFloorAndRound(t *testing.T) {
	for _, c := range []struct {
		a            api.Frac
		floor, round int64
	}{
		{fr(-3, 2), -2, -2}, {fr(5, 2), 2, 3}, {fr(3, 2), 1, 2}, {fr(-5, 2), -3, -3}, {fr(1, 2), 0, 1}, {fr(-1, 2), -1, -1}, {fr(0, 1), 0, 0}, {fr(7, 1), 7, 7}, {fr(-7, 1), -7, -7},
		{fr(4, 3), 1, 1}, {fr(5, 3), 1, 2}, {fr(-4, 3), -2, -1}, {fr(-5, 3), -2, -2}, {fr(1, 3), 0, 0}, {fr(-1, 3), -1, 0},
		{fr(top, 1), top, top}, {fr(-top, 1), -top, -top}, {fr(top, 2), top / 2, top/2 + 1}, {fr(-top, 2), -top/2 - 1, -top/2 - 1}, {fr(1, top), 0, 0}, {fr(-1, top), -1, 0},
		{fr(top-1, top), 0, 1}, {fr(1-top, top), -1, -1}, {fr(top/2, top), 0, 0}, {fr(top/2+1, top), 0, 1}, {fr(-(top/2 + 1), top), -1, -1}, {fr(-(top / 2), top), -1, 0},
	} {
		if floor, round := fraction.Floor(c.a), fraction.Round(c.a); floor != c.floor || round != c.round {
			t.Errorf("Floor and Round of %v: %d, %d", c.a, floor, round)
		}
	}
	for _, a := range append(small(12), someFractions()...) {
		num, den := big.NewInt(a.Num), big.NewInt(a.Den)
		floor := new(big.Int).Div(num, den)
		if n := fraction.Floor(a); floor.Cmp(big.NewInt(n)) != 0 {
			t.Errorf("Floor of %v: %d", a, n)
		}
		twice := new(big.Int).Mul(new(big.Int).Abs(num), big.NewInt(2))
		round := twice.Add(twice, den).Div(twice, new(big.Int).Mul(den, big.NewInt(2)))
		if num.Sign() < 0 {
			round.Neg(round)
		}
		if n := fraction.Round(a); round.Cmp(big.NewInt(n)) != 0 {
			t.Errorf("Round of %v: %d", a, n)
		}
	}
}

func TestLawsOfCalculation(t *testing.T) {
	list := append(small(3), fr(top, 8), fr(-8, top), fr(999999999, 1000000000))
	add := func(a, b api.Frac) api.Frac { f, _ := fraction.Add(a, b); return f }
	mul := func(a, b api.Frac) api.Frac { f, _ := fraction.Mul(a, b); return f }
	same := func(a, b api.Frac) bool { return a == b || a == fr(0, 0) || b == fr(0, 0) }
	for _, a := range list {
		for _, b := range list {
			if add(a, b) != add(b, a) || mul(a, b) != mul(b, a) {
				t.Errorf("the order of %v and %v matters", a, b)
			}
			if back, e := fraction.Sub(add(a, b), b); e == api.OK && back != a {
				t.Errorf("Sub does not undo Add of %v and %v: %v", a, b, back)
			}
			if back, e := fraction.Div(mul(a, b), b); e == api.OK && back != a {
				t.Errorf("Div does not undo Mul of %v and %v: %v", a, b, back)
			}
			if fraction.Cmp(a, b) != -fraction.Cmp(b, a) || (fraction.Cmp(a, b) == 0) != (a == b) {
				t.Errorf("Cmp of %v and %v", a, b)
			}
			for _, c := range list {
				if !same(add(add(a, b), c), add(a, add(b, c))) || !same(mul(mul(a, b), c), mul(a, mul(b, c))) || !same(mul(a, add(b, c)), add(mul(a, b), mul(a, c))) {
					t.Errorf("laws of %v, %v, %v", a, b, c)
				}
				if x, y := add(a, c), add(b, c); x.Den > 0 && y.Den > 0 && fraction.Cmp(x, y) != fraction.Cmp(a, b) {
					t.Errorf("Add of %v changes the order of %v and %v", c, a, b)
				}
				if fraction.Cmp(a, b) < 0 && fraction.Cmp(b, c) < 0 && fraction.Cmp(a, c) >= 0 {
					t.Errorf("the order of %v, %v, %v", a, b, c)
				}
			}
		}
	}
}
