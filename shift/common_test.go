package shift_test

import (
	"math/rand"
	"slices"
	"testing"

	"gangsaw/api"
	"gangsaw/shift"
)

func same(a, b shift.Calendar) bool {
	return slices.Equal(a.Shifts, b.Shifts) && slices.Equal(a.Free, b.Free)
}

// wantCommon tests what two calendars have in common, both ways.
func wantCommon(t *testing.T, a, b, want shift.Calendar) {
	t.Helper()
	for range 2 {
		if c, e := shift.Common(a, b); e != api.OK || !same(c, want) {
			t.Errorf("Common of %v and %v: %v, %d, not %v", a, b, c, e, want)
		}
		a, b = b, a
	}
	if e := shift.Check(want); e != api.OK {
		t.Errorf("%v is not valid: %d", want, e)
	}
}

// wantNothingInCommon tests that two calendars have an error.
func wantNothingInCommon(t *testing.T, a, b shift.Calendar, code api.Errno) {
	t.Helper()
	if c, e := shift.Common(a, b); e != code || len(c.Shifts) != 0 || len(c.Free) != 0 {
		t.Errorf("Common of %v and %v: %v, %d, not the error %d", a, b, c, e, code)
	}
}

func TestCommonShifts(t *testing.T) {
	for _, c := range []struct{ a, b, want []api.Shift }{
		{nil, nil, nil}, {example.Shifts, nil, nil}, {example.Shifts, example.Shifts, example.Shifts}, {example.Shifts, always.Shifts, example.Shifts}, {always.Shifts, always.Shifts, always.Shifts}, {week(1, 0, 9), week(2, 0, 9), nil}, {week(1, 0, 9), week(1, 9, 20), nil}, {week(1, 0, 9), week(1, 8, 20), week(1, 8, 9)},
		{week(1, 0, 100), week(1, 10, 20, 1, 30, 40), week(1, 10, 20, 1, 30, 40)}, {week(1, 0, 15, 1, 35, 50, 3, 1, 2), week(1, 10, 40, 3, 0, 5, 4, 0, 5), week(1, 10, 15, 1, 35, 40, 3, 1, 2)},
		// Shifts that touch in one calendar alone, in both at the same minute, and in both at others.
		{week(1, 0, 50, 1, 50, 100), week(1, 20, 80), week(1, 20, 80)}, {week(1, 0, 50, 1, 50, 100), week(1, 20, 50, 1, 50, 80), week(1, 20, 80)}, {week(1, 0, 50, 1, 50, 100), week(1, 0, 40, 1, 40, 100), week(1, 0, 100)}, {week(1, 0, 50, 1, 50, 100), week(1, 0, 50, 1, 51, 100), week(1, 0, 50, 1, 51, 100)},
		{week(1, 0, 50, 1, 50, 100), week(1, 0, 50), week(1, 0, 50)}, {week(1, 0, 50, 1, 50, 100, 1, 100, 150), week(1, 0, 150), week(1, 0, 150)}, {week(2, 700, day, 3, 0, 700), week(2, 0, day, 3, 0, day), week(2, 700, day, 3, 0, 700)}, {week(1, 0, 50, 2, 50, 100), always.Shifts, week(1, 0, 50, 2, 50, 100)}, {week(1, 0, day, 2, day-1, day, 7, day-1, day), always.Shifts, week(1, 0, day, 2, day-1, day, 7, day-1, day)},
		// Many shifts that are joined.
		{stripes(5, 0, 64, 20, 20), stripes(5, 10, 64, 20, 20), week(5, 10, 1280)}, {stripes(5, 0, 64, 20, 20), week(5, 0, day), week(5, 0, 1280)}, {stripes(5, 0, 64, 20, 20), stripes(5, 0, 64, 20, 20), week(5, 0, 1280)},
		{stripes(1, 0, 64, 20, 10), week(1, 0, day), stripes(1, 0, 64, 20, 10)},
	} {
		wantCommon(t, shift.Calendar{Shifts: c.a}, shift.Calendar{Shifts: c.b}, shift.Calendar{Shifts: c.want})
		wantCommon(t, shift.Calendar{Shifts: c.a, Free: []int{3, 9}}, shift.Calendar{Shifts: c.b, Free: []int{0, 9, last}}, shift.Calendar{Shifts: c.want, Free: []int{0, 3, 9, last}})
	}
}

func TestTooMuchInCommon(t *testing.T) {
	// Each shift but the last one overlaps two of the others.
	left, right := stripes(1, 0, 33, 20, 15), stripes(1, 10, 33, 20, 15)
	var parts []api.Shift
	for i := range 33 {
		parts = append(parts, api.Shift{Weekday: 1, From: 20*i + 10, To: 20*i + 15}, api.Shift{Weekday: 1, From: 20*i + 20, To: 20*i + 25})
	}
	wantNothingInCommon(t, shift.Calendar{Shifts: left}, shift.Calendar{Shifts: right}, api.ErrTooMany)
	wantNothingInCommon(t, shift.Calendar{Shifts: right}, shift.Calendar{Shifts: left}, api.ErrTooMany)
	wantCommon(t, shift.Calendar{Shifts: left}, shift.Calendar{Shifts: right[:32]}, shift.Calendar{Shifts: parts[:64]})
	wantNothingInCommon(t, shift.Calendar{Shifts: slices.Concat(left[:32], week(2, 0, 9))}, shift.Calendar{Shifts: slices.Concat(right[:32], week(2, 0, 2, 2, 3, 9))}, api.ErrTooMany)
	wantCommon(t, shift.Calendar{Shifts: slices.Concat(left[:32], week(2, 0, 9))}, shift.Calendar{Shifts: slices.Concat(right[:32], week(2, 0, 2, 2, 2, 9))}, shift.Calendar{Shifts: slices.Concat(parts[:63], week(2, 0, 9))})
	// Free days.
	for _, shifts := range [][]api.Shift{nil, example.Shifts} {
		few, many := shift.Calendar{Shifts: shifts, Free: days(0, 32)}, shift.Calendar{Shifts: shifts, Free: days(last-32, 33)}
		wantNothingInCommon(t, few, many, api.ErrTooMany)
		wantNothingInCommon(t, many, few, api.ErrTooMany)
		wantCommon(t, few, shift.Calendar{Shifts: shifts, Free: days(last-31, 32)}, shift.Calendar{Shifts: shifts, Free: slices.Concat(days(0, 32), days(last-31, 32))})
		wantCommon(t, few, shift.Calendar{Shifts: shifts, Free: days(31, 33)}, shift.Calendar{Shifts: shifts, Free: days(0, 64)})
		wantCommon(t, shift.Calendar{Shifts: shifts, Free: days(7, 64)}, shift.Calendar{Shifts: shifts, Free: days(7, 64)}, shift.Calendar{Shifts: shifts, Free: days(7, 64)})
		wantNothingInCommon(t, shift.Calendar{Shifts: shifts, Free: days(7, 64)}, shift.Calendar{Shifts: shifts, Free: []int{0}}, api.ErrTooMany)
	}
}

// slowCommon counts the runs of minutes that both weeks have.
func slowCommon(a, b shift.Calendar) (shift.Calendar, api.Errno) {
	var both shift.Calendar
	p, q := pattern(a), pattern(b)
	for weekday := range 7 {
		for m := range day {
			if !p[weekday][m] || !q[weekday][m] {
				continue
			}
			if m > 0 && p[weekday][m-1] && q[weekday][m-1] {
				both.Shifts[len(both.Shifts)-1].To++
			} else {
				both.Shifts = append(both.Shifts, api.Shift{Weekday: weekday + 1, From: m, To: m + 1})
			}
		}
	}
	for d := range last + 1 {
		if slices.Contains(a.Free, d) || slices.Contains(b.Free, d) {
			both.Free = append(both.Free, d)
		}
	}
	if len(both.Shifts) > 64 || len(both.Free) > 64 {
		return shift.Calendar{}, api.ErrTooMany
	}
	return both, api.OK
}

func TestCommonOfRandomCalendars(t *testing.T) {
	random := rand.New(rand.NewSource(121))
	seen := map[api.Errno]int{}
	for i := range 1500 {
		a, b := someCalendar(random, i%3 == 0), someCalendar(random, i%5 == 0)
		want, code := slowCommon(a, b)
		seen[code]++
		if code != api.OK {
			wantNothingInCommon(t, a, b, code)
			continue
		}
		wantCommon(t, a, b, want)
		wantCommon(t, want, a, want)
		wantCommon(t, want, want, want)
		from := random.Intn(end)
		to := from + random.Intn(min(30*day, end-from))
		n, _ := shift.Work(want, from, to)
		p, q := pattern(a), pattern(b)
		for m := from; m < to; m++ {
			if d := m / day; p[d%7][m%day] && q[d%7][m%day] && !slices.Contains(a.Free, d) && !slices.Contains(b.Free, d) {
				n--
			}
		}
		if n != 0 {
			t.Errorf("Work from %d to %d in what %v and %v have in common: %d too much", from, to, a, b, n)
		}
	}
	if seen[api.OK] < 500 || seen[api.ErrTooMany] < 100 {
		t.Errorf("calendars by errors: %v", seen)
	}
}
