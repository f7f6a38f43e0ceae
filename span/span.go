// Package span is layer 1: intervals of integers and sets of them. See shared/doc/01-span.md.
package span

import (
	"cmp"
	"slices"

	"gangsaw/api"
)

// Limits of intervals.
const (
	MaxNumber = 1000000000000
	MaxList   = 10000
)

// Check returns OK for a valid interval, or the first error.
func Check(a api.Interval) api.Errno {
	if !inRange(a) {
		return api.ErrRange
	}
	if a.Lo > a.Hi {
		return api.ErrInvalid
	}
	return api.OK
}

// Contains reports whether a number lies in an interval.
func Contains(a api.Interval, n int) bool {
	return a.Lo <= n && n <= a.Hi
}

// Within reports whether all numbers of a lie in b.
func Within(a, b api.Interval) bool {
	return a.Lo > a.Hi || b.Lo <= a.Lo && a.Hi <= b.Hi
}

// Length returns how many numbers an interval has.
func Length(a api.Interval) int {
	if Check(a) != api.OK {
		return 0
	}
	return a.Hi - a.Lo + 1
}

// Add returns the interval of all sums of a number of a and one of b.
func Add(a, b api.Interval) (api.Interval, api.Errno) {
	return total(a, b)
}

// Sub returns the interval of all differences of a number of a and one of b.
func Sub(a, b api.Interval) (api.Interval, api.Errno) {
	if e := checkAll(a, b); e != api.OK {
		return api.Interval{}, e
	}
	return total(a, api.Interval{Lo: -b.Hi, Hi: -b.Lo})
}

// Sum returns the interval of all sums of one number of each interval.
func Sum(list []api.Interval) (api.Interval, api.Errno) {
	if len(list) > MaxList {
		return api.Interval{}, api.ErrTooMany
	}
	return total(list...)
}

// Intersect returns the common numbers.
func Intersect(a, b api.Interval) (api.Interval, api.Errno) {
	if e := checkAll(a, b); e != api.OK {
		return api.Interval{}, e
	}
	part := overlap(a, b)
	if part.Lo > part.Hi {
		return api.Interval{}, api.ErrNone
	}
	return part, api.OK
}

// Hull returns the least interval that contains both.
func Hull(a, b api.Interval) (api.Interval, api.Errno) {
	if e := checkAll(a, b); e != api.OK {
		return api.Interval{}, e
	}
	return hull(a, b), api.OK
}

// Normalize returns the set of all numbers of intervals: increasing, not touching.
func Normalize(list []api.Interval) ([]api.Interval, api.Errno) {
	if e := checkLists(list); e != api.OK {
		return nil, e
	}
	return normal(list), api.OK
}

// Union returns the set of the numbers of one list or the other.
func Union(a, b []api.Interval) ([]api.Interval, api.Errno) {
	if e := checkLists(a, b); e != api.OK {
		return nil, e
	}
	return normal(a, b), api.OK
}

// Minus returns the set of the numbers of a that are not in b.
func Minus(a, b []api.Interval) ([]api.Interval, api.Errno) {
	if e := checkLists(a, b); e != api.OK {
		return nil, e
	}
	return minus(normal(a), normal(b)), api.OK
}

// Common returns the set of the numbers of both lists.
func Common(a, b []api.Interval) ([]api.Interval, api.Errno) {
	if e := checkLists(a, b); e != api.OK {
		return nil, e
	}
	return common(normal(a), normal(b)), api.OK
}

// Count returns how many numbers the intervals of a list have together, each counted once.
func Count(list []api.Interval) (int, api.Errno) {
	if e := checkLists(list); e != api.OK {
		return 0, e
	}
	n := 0
	for _, a := range normal(list) {
		n += Length(a)
	}
	return n, api.OK
}

func inRange(a api.Interval) bool {
	return min(a.Lo, a.Hi) >= -MaxNumber && max(a.Lo, a.Hi) <= MaxNumber
}

// checkAll returns the error of the intervals that is named first: an end out of range anywhere comes before an inverted interval.
func checkAll(intervals ...api.Interval) api.Errno {
	first := api.OK
	for _, a := range intervals {
		switch Check(a) {
		case api.ErrRange:
			return api.ErrRange
		case api.ErrInvalid:
			first = api.ErrInvalid
		}
	}
	return first
}

func checkLists(lists ...[]api.Interval) api.Errno {
	for _, list := range lists {
		if len(list) > MaxList {
			return api.ErrTooMany
		}
	}
	return checkAll(slices.Concat(lists...)...)
}

// total cannot overflow: it adds at most MaxList ends, each of at most MaxNumber.
func total(intervals ...api.Interval) (api.Interval, api.Errno) {
	if e := checkAll(intervals...); e != api.OK {
		return api.Interval{}, e
	}
	sum := api.Interval{}
	for _, a := range intervals {
		sum.Lo += a.Lo
		sum.Hi += a.Hi
	}
	if !inRange(sum) {
		return api.Interval{}, api.ErrRange
	}
	return sum, api.OK
}

// overlap returns the common numbers; Lo is greater than Hi if there are none.
func overlap(a, b api.Interval) api.Interval {
	return api.Interval{Lo: max(a.Lo, b.Lo), Hi: min(a.Hi, b.Hi)}
}

func hull(a, b api.Interval) api.Interval {
	return api.Interval{Lo: min(a.Lo, b.Lo), Hi: max(a.Hi, b.Hi)}
}

// order compares by the lower ends, then by the upper ones.
func order(a, b api.Interval) int {
	if a == b {
		return 0
	}
	if a.Lo != b.Lo {
		return cmp.Compare(a.Lo, b.Lo)
	}
	return cmp.Compare(a.Hi, b.Hi)
}

// normal returns the normal form of the numbers of all lists.
func normal(lists ...[]api.Interval) []api.Interval {
	sorted := slices.Concat(lists...)
	slices.SortFunc(sorted, order)
	var set []api.Interval
	for _, a := range sorted {
		last := len(set) - 1
		if last >= 0 && a.Lo <= set[last].Hi+1 {
			set[last] = hull(set[last], a)
		} else {
			set = append(set, a)
		}
	}
	return set
}

// minus takes b from a. Both are in normal form, and so is the result: what is left of a stays apart.
func minus(a, b []api.Interval) []api.Interval {
	var left []api.Interval
	for _, rest := range a {
		for len(b) > 0 && b[0].Hi < rest.Lo {
			b = b[1:]
		}
		for _, hole := range b {
			if hole.Lo > rest.Hi {
				break
			}
			if rest.Lo < hole.Lo {
				left = append(left, api.Interval{Lo: rest.Lo, Hi: hole.Lo - 1})
			}
			rest.Lo = hole.Hi + 1
		}
		if rest.Lo <= rest.Hi {
			left = append(left, rest)
		}
	}
	return left
}

// common walks along both lists, which are in normal form, and so is the result: two parts of it have a gap of a or b between them.
func common(a, b []api.Interval) []api.Interval {
	var both []api.Interval
	for len(a) > 0 && len(b) > 0 {
		part := overlap(a[0], b[0])
		if part.Lo <= part.Hi {
			both = append(both, part)
		}
		if a[0].Hi < b[0].Hi {
			a = a[1:]
		} else {
			b = b[1:]
		}
	}
	return both
}
