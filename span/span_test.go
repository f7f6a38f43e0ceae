package span_test

import (
	"math"
	"math/rand"
	"slices"
	"testing"

	"gangsaw/api"
	"gangsaw/span"
)

const top = span.MaxNumber

func in(lo, hi int) api.Interval {
	return api.Interval{Lo: lo, Hi: hi}
}

// pairs makes a list of intervals from their ends.
func pairs(ends ...int) []api.Interval {
	var list []api.Interval
	for i := 0; i+1 < len(ends); i += 2 {
		list = append(list, in(ends[i], ends[i+1]))
	}
	return list
}

// single has an interval for each number from 0 to 2n, each second one left out.
func single(n int) []api.Interval {
	var list []api.Interval
	for i := range n {
		list = append(list, in(2*i, 2*i))
	}
	return list
}

var (
	low      = in(-top-1, 0)
	high     = in(0, top+1)
	inverted = in(2, 1)
	extremes = []api.Interval{
		in(math.MinInt, math.MaxInt), in(math.MaxInt, math.MinInt), in(math.MinInt, math.MinInt), in(math.MaxInt, math.MaxInt),
		in(-top-1, -top-1), in(top+1, top+1), in(-top, top), in(top, -top), in(0, 0), in(0, 1), in(1, 0), in(0, math.MaxInt), in(math.MinInt, 0),
	}
)

func TestSignatures(t *testing.T) {
	type two = func(a, b api.Interval) (api.Interval, api.Errno)
	type lists = func(a, b []api.Interval) ([]api.Interval, api.Errno)
	var _ func(api.Interval) api.Errno = span.Check
	var _ func(api.Interval, int) bool = span.Contains
	var _ func(a, b api.Interval) bool = span.Within
	var _ func(api.Interval) int = span.Length
	var _, _, _, _ two = span.Add, span.Sub, span.Intersect, span.Hull
	var _ func([]api.Interval) (api.Interval, api.Errno) = span.Sum
	var _ func([]api.Interval) ([]api.Interval, api.Errno) = span.Normalize
	var _, _, _ lists = span.Union, span.Minus, span.Common
	var _ func([]api.Interval) (int, api.Errno) = span.Count
	if span.MaxNumber != 1000000000000 || span.MaxList != 10000 {
		t.Error("limits")
	}
}

func TestCheck(t *testing.T) {
	for _, c := range []struct {
		a    api.Interval
		want api.Errno
	}{
		{in(0, 0), api.OK}, {in(-3, 8), api.OK}, {in(-top, top), api.OK}, {in(top, top), api.OK}, {in(-top, -top), api.OK},
		{in(2, 1), api.ErrInvalid}, {in(top, -top), api.ErrInvalid},
		{in(-top-1, 0), api.ErrRange}, {in(0, top+1), api.ErrRange}, {in(top+1, top+1), api.ErrRange}, {in(-top-1, -top-1), api.ErrRange},
		{in(top+1, 0), api.ErrRange}, {in(0, -top-1), api.ErrRange}, {in(math.MaxInt, math.MinInt), api.ErrRange},
	} {
		if e := span.Check(c.a); e != c.want {
			t.Errorf("Check of %v: %d, not %d", c.a, e, c.want)
		}
	}
}

func TestContains(t *testing.T) {
	for n, want := range map[int]bool{-3: false, -2: true, 0: true, 5: true, 6: false, math.MinInt: false, math.MaxInt: false} {
		if span.Contains(in(-2, 5), n) != want {
			t.Errorf("Contains of %d", n)
		}
	}
	if span.Contains(in(2, 1), 1) || span.Contains(in(2, 1), 2) || span.Contains(in(5, 1), 3) {
		t.Error("an inverted interval contains nothing")
	}
	if !span.Contains(in(math.MinInt, math.MaxInt), math.MaxInt) || !span.Contains(in(top+1, top+2), top+2) {
		t.Error("Contains is for any intervals")
	}
}

func TestWithin(t *testing.T) {
	for lo := -3; lo <= 3; lo++ {
		for hi := -3; hi <= 3; hi++ {
			for from := -3; from <= 3; from++ {
				for to := -3; to <= 3; to++ {
					a, b, want := in(lo, hi), in(from, to), true
					for n := lo; n <= hi; n++ {
						want = want && span.Contains(b, n)
					}
					if span.Within(a, b) != want {
						t.Errorf("Within of %v and %v", a, b)
					}
				}
			}
		}
	}
	if !span.Within(in(0, math.MaxInt), in(math.MinInt, math.MaxInt)) || span.Within(in(math.MinInt, 0), in(0, math.MaxInt)) || !span.Within(in(math.MaxInt, math.MinInt), in(1, 0)) {
		t.Error("Within is for any intervals")
	}
}

func TestLength(t *testing.T) {
	for a, want := range map[api.Interval]int{
		in(3, 3): 1, in(-1, 1): 3, in(-top, top): 2*top + 1, in(0, top): top + 1,
		in(2, 1): 0, in(5, -5): 0, in(0, top+1): 0, in(-top-1, 0): 0, in(math.MinInt, math.MaxInt): 0,
	} {
		if n := span.Length(a); n != want {
			t.Errorf("Length of %v: %d, not %d", a, n, want)
		}
	}
}

func TestTwoIntervals(t *testing.T) {
	type function = func(a, b api.Interval) (api.Interval, api.Errno)
	names := map[string]function{"Add": span.Add, "Sub": span.Sub, "Intersect": span.Intersect, "Hull": span.Hull}
	for _, c := range []struct {
		name string
		a, b api.Interval
		want api.Interval
		e    api.Errno
	}{
		{"Add", in(1, 3), in(10, 20), in(11, 23), api.OK},
		{"Add", in(-5, -1), in(0, 0), in(-5, -1), api.OK},
		{"Add", in(-top, 0), in(0, top), in(-top, top), api.OK},
		{"Add", in(0, top), in(0, 1), in(0, 0), api.ErrRange},
		{"Add", in(-top, 0), in(-1, 0), in(0, 0), api.ErrRange},
		{"Sub", in(1, 3), in(10, 20), in(-19, -7), api.OK},
		{"Sub", in(1, 3), in(1, 3), in(-2, 2), api.OK},
		{"Sub", in(-top, top), in(0, 0), in(-top, top), api.OK},
		{"Sub", in(0, top), in(-1, 0), in(0, 0), api.ErrRange},
		{"Sub", in(-top, 0), in(0, 1), in(0, 0), api.ErrRange},
		{"Intersect", in(1, 5), in(4, 9), in(4, 5), api.OK},
		{"Intersect", in(4, 9), in(1, 5), in(4, 5), api.OK},
		{"Intersect", in(1, 3), in(3, 4), in(3, 3), api.OK},
		{"Intersect", in(1, 9), in(3, 4), in(3, 4), api.OK},
		{"Intersect", in(1, 2), in(3, 4), in(0, 0), api.ErrNone},
		{"Intersect", in(5, 6), in(3, 4), in(0, 0), api.ErrNone},
		{"Hull", in(1, 2), in(3, 4), in(1, 4), api.OK},
		{"Hull", in(7, 9), in(-3, 4), in(-3, 9), api.OK},
		{"Hull", in(1, 9), in(3, 4), in(1, 9), api.OK},
		{"Hull", in(-top, -top), in(top, top), in(-top, top), api.OK},
	} {
		if got, e := names[c.name](c.a, c.b); got != c.want || e != c.e {
			t.Errorf("%s of %v and %v: %v, %d", c.name, c.a, c.b, got, e)
		}
	}
	for name, f := range names {
		for _, c := range []struct {
			a, b api.Interval
			want api.Errno
		}{
			{low, in(0, 1), api.ErrRange}, {in(0, 1), low, api.ErrRange}, {high, in(0, 1), api.ErrRange}, {in(0, 1), high, api.ErrRange},
			{inverted, in(0, 1), api.ErrInvalid}, {in(0, 1), inverted, api.ErrInvalid},
			{inverted, high, api.ErrRange}, {low, inverted, api.ErrRange},
			{inverted, in(top, top), api.ErrInvalid}, {in(-top, -top), inverted, api.ErrInvalid},
		} {
			if got, e := f(c.a, c.b); got != in(0, 0) || e != c.want {
				t.Errorf("%s of %v and %v: %v, %d, not %d", name, c.a, c.b, got, e, c.want)
			}
		}
		for _, a := range extremes {
			for _, b := range extremes {
				got, e := f(a, b)
				valid := span.Check(a) == api.OK && span.Check(b) == api.OK
				if e == api.OK && (!valid || span.Check(got) != api.OK) || e != api.OK && got != in(0, 0) || !valid && e != api.ErrRange && e != api.ErrInvalid {
					t.Errorf("%s of %v and %v: %v, %d", name, a, b, got, e)
				}
			}
		}
	}
}

func TestSum(t *testing.T) {
	many := func(a api.Interval, n int) []api.Interval { return slices.Repeat([]api.Interval{a}, n) }
	for _, c := range []struct {
		list []api.Interval
		want api.Interval
		e    api.Errno
	}{
		{pairs(1, 2, 1, 2, 1, 2), in(3, 6), api.OK},
		{nil, in(0, 0), api.OK},
		{[]api.Interval{}, in(0, 0), api.OK},
		{pairs(-4, 7), in(-4, 7), api.OK},
		{pairs(top, top, top, top, -top, -top), in(top, top), api.OK},
		{pairs(-top, top, top, top, -top, -top), in(-top, top), api.OK},
		{pairs(0, top, 0, 1), in(0, 0), api.ErrRange},
		{pairs(-top, 0, -1, 0), in(0, 0), api.ErrRange},
		{pairs(1, 2, 2, 1), in(0, 0), api.ErrInvalid},
		{pairs(1, 2, 2, 1, 0, top+1), in(0, 0), api.ErrRange},
		{pairs(0, top, 0, top, 2, 1), in(0, 0), api.ErrInvalid},
		{many(in(1, 2), span.MaxList), in(span.MaxList, 2*span.MaxList), api.OK},
		{many(in(-top, top), span.MaxList), in(0, 0), api.ErrRange},
		{many(in(1, 2), span.MaxList+1), in(0, 0), api.ErrTooMany},
		{many(in(math.MinInt, math.MaxInt), span.MaxList), in(0, 0), api.ErrRange},
		{many(high, span.MaxList+1), in(0, 0), api.ErrTooMany},
	} {
		if got, e := span.Sum(c.list); got != c.want || e != c.e {
			t.Errorf("Sum of %d intervals: %v, %d, not %v, %d", len(c.list), got, e, c.want, c.e)
		}
	}
}

// set returns the numbers of a list in order.
func set(list []api.Interval) []int {
	has := map[int]bool{}
	for _, a := range list {
		for n := a.Lo; n <= a.Hi; n++ {
			has[n] = true
		}
	}
	var numbers []int
	for n := range has {
		numbers = append(numbers, n)
	}
	slices.Sort(numbers)
	return numbers
}

// runs returns the normal form of a sorted set of numbers.
func runs(numbers []int) []api.Interval {
	var list []api.Interval
	for i, n := range numbers {
		if i > 0 && numbers[i-1] == n-1 {
			list[len(list)-1].Hi = n
		} else {
			list = append(list, in(n, n))
		}
	}
	return list
}

func filter(numbers []int, keep func(n int) bool) []int {
	return slices.DeleteFunc(slices.Clone(numbers), func(n int) bool { return !keep(n) })
}

// someLists are lists of few intervals of small numbers: empty, touching, nested and repeated ones among them.
func someLists() [][]api.Interval {
	random := rand.New(rand.NewSource(1))
	lists := [][]api.Interval{nil, {}, pairs(1, 1), pairs(1, 9), pairs(1, 2, 3, 4), pairs(1, 2, 4, 5), pairs(1, 9, 3, 4), pairs(3, 4, 1, 9), pairs(1, 5, 5, 9), pairs(2, 2, 2, 2), pairs(-3, -1, 0, 0, 1, 3)}
	for len(lists) < 120 {
		var list []api.Interval
		for range random.Intn(7) {
			lo := random.Intn(24) - 12
			list = append(list, in(lo, lo+random.Intn(5)))
		}
		lists = append(lists, list)
	}
	return lists
}

func TestSetsAgainstNumbers(t *testing.T) {
	lists := someLists()
	check := func(what string, got []api.Interval, e api.Errno, want []int) {
		t.Helper()
		if e != api.OK || !slices.Equal(got, runs(want)) {
			t.Errorf("%s: %v, %d, not %v", what, got, e, runs(want))
		}
	}
	for _, a := range lists {
		inA := set(a)
		got, e := span.Normalize(a)
		check("Normalize", got, e, inA)
		if n, e := span.Count(a); n != len(inA) || e != api.OK {
			t.Errorf("Count of %v: %d, %d", a, n, e)
		}
		for _, b := range lists {
			inB := set(b)
			has := func(n int) bool { return slices.Contains(inB, n) }
			got, e := span.Union(a, b)
			check("Union", got, e, set(slices.Concat(a, b)))
			got, e = span.Minus(a, b)
			check("Minus", got, e, filter(inA, func(n int) bool { return !has(n) }))
			got, e = span.Common(a, b)
			check("Common", got, e, filter(inA, has))
		}
	}
}

func TestSetsOfExamples(t *testing.T) {
	check := func(what string, got []api.Interval, e api.Errno, want []api.Interval) {
		t.Helper()
		if e != api.OK || !slices.Equal(got, want) {
			t.Errorf("%s: %v, %d, not %v", what, got, e, want)
		}
	}
	got, e := span.Normalize(pairs(5, 7, 1, 2, 3, 3))
	check("Normalize", got, e, pairs(1, 3, 5, 7))
	got, e = span.Minus(pairs(1, 9), pairs(3, 3, 6, 7))
	check("Minus", got, e, pairs(1, 2, 4, 5, 8, 9))
	if n, e := span.Count(pairs(1, 5, 4, 9)); n != 9 || e != api.OK {
		t.Errorf("Count: %d, %d", n, e)
	}
	all := pairs(-top, top)
	got, e = span.Minus(all, pairs(0, 0))
	check("Minus in the whole range", got, e, pairs(-top, -1, 1, top))
	got, e = span.Minus(all, all)
	check("Minus of all", got, e, nil)
	got, e = span.Minus(all, pairs(-top, -top, top, top))
	check("Minus of both ends", got, e, pairs(-top+1, top-1))
	got, e = span.Union(pairs(-top, 0), pairs(1, top))
	check("Union of the whole range", got, e, all)
	got, e = span.Common(pairs(-top, 0), pairs(0, top))
	check("Common of one number", got, e, pairs(0, 0))
	if n, e := span.Count(all); n != 2*top+1 || e != api.OK {
		t.Errorf("Count of the whole range: %d, %d", n, e)
	}
}

func TestLongLists(t *testing.T) {
	long := single(span.MaxList)
	shifted := slices.Clone(long)
	for i := range shifted {
		shifted[i].Lo += 3 * span.MaxList
		shifted[i].Hi += 3 * span.MaxList
	}
	if got, e := span.Normalize(long); e != api.OK || !slices.Equal(got, long) {
		t.Errorf("Normalize: %d intervals, %d", len(got), e)
	}
	if got, e := span.Union(long, shifted); e != api.OK || !slices.Equal(got, slices.Concat(long, shifted)) {
		t.Errorf("Union: %d intervals, %d", len(got), e)
	}
	if got, e := span.Minus(pairs(0, 2*span.MaxList), long); e != api.OK || len(got) != span.MaxList {
		t.Errorf("Minus: %d intervals, %d", len(got), e)
	}
	if got, e := span.Common(long, pairs(0, 2*span.MaxList)); e != api.OK || !slices.Equal(got, long) {
		t.Errorf("Common: %d intervals, %d", len(got), e)
	}
	if n, e := span.Count(long); n != span.MaxList || e != api.OK {
		t.Errorf("Count: %d, %d", n, e)
	}
}

func TestErrorsOfSets(t *testing.T) {
	long := single(span.MaxList + 1)
	longHigh := append(single(span.MaxList), high)
	ok := pairs(1, 2)
	for _, c := range []struct {
		a, b []api.Interval
		want api.Errno
	}{
		{long, nil, api.ErrTooMany}, {longHigh, nil, api.ErrTooMany}, {nil, long, api.ErrTooMany},
		{pairs(0, top+1), long, api.ErrTooMany}, {pairs(2, 1), long, api.ErrTooMany},
		{pairs(-top-1, 0), nil, api.ErrRange}, {ok, pairs(0, 1, 0, top+1), api.ErrRange},
		{pairs(2, 1), pairs(0, top+1), api.ErrRange}, {pairs(2, 1, 0, top+1), ok, api.ErrRange}, {pairs(math.MinInt, math.MaxInt), ok, api.ErrRange},
		{pairs(2, 1), ok, api.ErrInvalid}, {ok, pairs(1, 2, 2, 1, 3, 4), api.ErrInvalid}, {ok, pairs(top, -top), api.ErrInvalid},
	} {
		for name, f := range map[string]func(a, b []api.Interval) ([]api.Interval, api.Errno){"Union": span.Union, "Minus": span.Minus, "Common": span.Common} {
			if got, e := f(c.a, c.b); len(got) != 0 || e != c.want {
				t.Errorf("%s: %d intervals, %d, not %d", name, len(got), e, c.want)
			}
		}
		if len(c.b) > 0 {
			continue
		}
		if got, e := span.Normalize(c.a); len(got) != 0 || e != c.want {
			t.Errorf("Normalize: %d intervals, %d, not %d", len(got), e, c.want)
		}
		if n, e := span.Count(c.a); n != 0 || e != c.want {
			t.Errorf("Count: %d, %d, not %d", n, e, c.want)
		}
	}
	for _, list := range [][]api.Interval{pairs(2, 1, 0, top+1), pairs(0, top+1, 2, 1)} {
		if got, e := span.Normalize(list); len(got) != 0 || e != api.ErrRange {
			t.Errorf("Normalize of %v: %v, %d", list, got, e)
		}
		if n, e := span.Count(list); n != 0 || e != api.ErrRange {
			t.Errorf("Count of %v: %d, %d", list, n, e)
		}
	}
	if n, e := span.Count(pairs(2, 1)); n != 0 || e != api.ErrInvalid {
		t.Errorf("Count: %d, %d", n, e)
	}
	if got, e := span.Normalize(pairs(2, 1)); len(got) != 0 || e != api.ErrInvalid {
		t.Errorf("Normalize: %v, %d", got, e)
	}
}

// TestMemory gives lists with spare room, and writes to the results and to the arguments afterwards.
func TestMemory(t *testing.T) {
	first, second := pairs(8, 9, 1, 2, 3, 3, 99, 99), pairs(2, 8, 1, 1, 98, 98)
	a, b := first[:3], second[:2]
	keepA, keepB := slices.Clone(first), slices.Clone(second)
	var results [][]api.Interval
	take := func(list []api.Interval, e api.Errno) {
		if e != api.OK || len(list) == 0 {
			t.Fatalf("%v, %d", list, e)
		}
		results = append(results, list)
	}
	for range 2 {
		take(span.Normalize(a))
		take(span.Normalize(a[1:2]))
		take(span.Union(a, b))
		take(span.Union(a[1:2], nil))
		take(span.Union(nil, b[:1]))
		take(span.Minus(a, b))
		take(span.Minus(a, nil))
		take(span.Common(a, b))
		take(span.Common(a, a))
	}
	span.Count(a)
	span.Sum(a)
	if !slices.Equal(first, keepA) || !slices.Equal(second, keepB) {
		t.Fatal("an argument is changed")
	}
	var keep [][]api.Interval
	for _, list := range results {
		keep = append(keep, slices.Clone(list))
	}
	for i := range a {
		a[i] = in(77, 78)
	}
	b[0], b[1] = in(55, 55), in(56, 56)
	for i, list := range results {
		if !slices.Equal(list, keep[i]) {
			t.Errorf("result %d shares memory with an argument or with another result", i)
		}
		for k := range list {
			list[k] = in(66, 66)
		}
	}
}

func TestPropertiesOfSums(t *testing.T) {
	for _, list := range someLists() {
		lows, highs := 0, 0
		for _, a := range list {
			lows += a.Lo
			highs += a.Hi
		}
		if sum, e := span.Sum(list); sum != in(lows, highs) || e != api.OK {
			t.Errorf("Sum of %v: %v, %d", list, sum, e)
		}
	}
	for _, a := range pairs(-3, 2, 0, 0, 1, 4) {
		for _, b := range pairs(-1, 1, 2, 5) {
			sum, _ := span.Add(a, b)
			difference, _ := span.Sub(a, b)
			var sums, differences []int
			for x := a.Lo; x <= a.Hi; x++ {
				for y := b.Lo; y <= b.Hi; y++ {
					sums, differences = append(sums, x+y), append(differences, x-y)
				}
			}
			if slices.Min(sums) != sum.Lo || slices.Max(sums) != sum.Hi || slices.Min(differences) != difference.Lo || slices.Max(differences) != difference.Hi {
				t.Errorf("%v and %v: %v, %v", a, b, sum, difference)
			}
		}
	}
}

func TestPropertiesOfSets(t *testing.T) {
	lists := someLists()
	for i, a := range lists {
		backward := slices.Clone(a)
		slices.Reverse(backward)
		forms, _ := span.Normalize(a)
		others, _ := span.Normalize(backward)
		if !slices.Equal(forms, others) {
			t.Errorf("the order of %v matters", a)
		}
		for k := 1; k < len(forms); k++ {
			if forms[k].Lo < forms[k-1].Hi+2 {
				t.Errorf("%v is no normal form", forms)
			}
		}
		b := lists[(i+7)%len(lists)]
		union, _ := span.Union(a, b)
		minus, _ := span.Minus(a, b)
		common, _ := span.Common(a, b)
		parts, _ := span.Union(minus, common)
		if !slices.Equal(parts, forms) {
			t.Errorf("%v is not the union of Minus and Common", a)
		}
		count := func(list []api.Interval) int {
			n, _ := span.Count(list)
			return n
		}
		if count(union) != count(a)+count(b)-count(common) {
			t.Errorf("counts of %v and %v", a, b)
		}
		if slices.Equal(set(a), set(b)) != slices.Equal(forms, func() []api.Interval { l, _ := span.Normalize(b); return l }()) {
			t.Errorf("normal forms of %v and %v", a, b)
		}
	}
}
