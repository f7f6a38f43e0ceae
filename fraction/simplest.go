package fraction

import "gangsaw/api"

// Simplest returns the fraction from a to b with the least denominator, and of these the one nearest to 0.
func Simplest(a, b api.Frac) (api.Frac, api.Errno) {
	if !allValid(a, b) || compare(a, b) > 0 {
		return api.Frac{}, api.ErrInvalid
	}
	switch {
	case a.Num > 0:
		return simplest(a, b), api.OK
	case b.Num < 0:
		return negative(simplest(negative(b), negative(a))), api.OK
	}
	return api.Frac{Num: 0, Den: 1}, api.OK
}

// simplest is Simplest for positive fractions, the first one at most the second one.
func simplest(from, to api.Frac) api.Frac {
	// Between two whole numbers, the simplest fraction is the lower one and the inverse of the simplest inverse of what exceeds it. The numbers become smaller as in Euclid's algorithm, and the result has no greater terms than either end.
	var unfold func(from, to api.Frac) api.Frac
	unfold = func(from, to api.Frac) api.Frac {
		whole, rest := from.Num/from.Den, from.Num%from.Den
		if rest == 0 {
			return api.Frac{Num: whole, Den: 1}
		}
		if whole < to.Num/to.Den {
			return api.Frac{Num: whole + 1, Den: 1}
		}
		inner := unfold(api.Frac{Num: to.Den, Den: to.Num % to.Den}, api.Frac{Num: from.Den, Den: rest})
		return api.Frac{Num: whole*inner.Num + inner.Den, Den: inner.Num}
	}
	return unfold(from, to)
}
