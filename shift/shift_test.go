package shift_test

import (
	"math"
	"reflect"
	"slices"
	"testing"

	"gangsaw/api"
	"gangsaw/shift"
)

const (
	day  = 1440
	last = 9999 // the last day
	end  = shift.MaxMinute
)

// week returns the shifts of weekday, from, to, weekday ..
func week(numbers ...int) []api.Shift {
	var list []api.Shift
	for i := 0; i < len(numbers); i += 3 {
		list = append(list, api.Shift{Weekday: numbers[i], From: numbers[i+1], To: numbers[i+2]})
	}
	return list
}

// days returns so many days from one on.
func days(from, count int) []int {
	var list []int
	for i := range count {
		list = append(list, from+i)
	}
	return list
}

// stripes returns so many shifts of a weekday that begin at intervals.
func stripes(weekday, from, count, every, length int) []api.Shift {
	var list []api.Shift
	for i := range count {
		list = append(list, api.Shift{Weekday: weekday, From: from + i*every, To: from + i*every + length})
	}
	return list
}

var example = shift.Calendar{Shifts: week(1, 480, 720, 1, 780, 960, 2, 480, 600), Free: []int{7}}

// always has no minute without work.
var always = shift.Calendar{Shifts: week(1, 0, day, 2, 0, day, 3, 0, day, 4, 0, day, 5, 0, day, 6, 0, day, 7, 0, day)}

func goodCalendars() []shift.Calendar {
	return []shift.Calendar{
		example, always, {}, {Shifts: []api.Shift{}, Free: []int{}}, {Free: []int{0, last}}, {Shifts: week(1, 0, 1)}, {Shifts: week(7, 1439, 1440)}, {Shifts: week(1, 0, day, 7, 0, day), Free: []int{0, 6, 7, last - 1, last}},
		// Shifts that touch, and nights over midnight and over the end of a week.
		{Shifts: week(3, 0, 720, 3, 720, 721, 3, 721, day)}, {Shifts: week(1, 0, 300, 2, 1200, day, 3, 0, 200, 3, 200, 400, 5, 1439, day, 6, 0, 1, 7, 1300, day), Free: []int{2, 14, 70, 71, 83}},
		{Shifts: stripes(4, 0, shift.MaxShifts, 22, 11), Free: days(0, shift.MaxFree)}, {Shifts: stripes(6, 100, shift.MaxShifts, 20, 20), Free: days(last+1-shift.MaxFree, shift.MaxFree)}, {Shifts: always.Shifts, Free: slices.Concat(days(0, 30), days(300, 4), days(last-29, 30))},
		{Shifts: slices.Concat(stripes(1, 0, 32, 45, 44), stripes(5, 5, 32, 3, 1)), Free: []int{21, 25, 28, 32, last - 3}},
	}
}

// badCalendar has the errors of Check, some of them several.
type badCalendar struct {
	c    shift.Calendar
	want api.Errno
}

func badCalendars() []badCalendar {
	long, odd := stripes(1, 0, shift.MaxShifts+1, 2, 1), week(2, 5, 9, 0, 9, 5)
	list := []badCalendar{
		{shift.Calendar{Shifts: long}, api.ErrTooMany}, {shift.Calendar{Free: days(0, shift.MaxFree+1)}, api.ErrTooMany}, {shift.Calendar{Shifts: odd, Free: make([]int, shift.MaxFree+1)}, api.ErrTooMany}, {shift.Calendar{Shifts: make([]api.Shift, 10000), Free: []int{-1}}, api.ErrTooMany}, {shift.Calendar{Shifts: long, Free: []int{5, 5, last + 1}}, api.ErrTooMany},
	}
	for _, s := range week(0, 1, 2, 8, 1, 2, -1, 1, 2, math.MinInt, 1, 2, math.MaxInt, 1, 2, 1, -1, 2, 1, math.MinInt, 2, 1, 5, 1441, 1, 5, math.MaxInt, 1, 5, 5, 1, 5, 4, 1, 0, 0, 1, 1440, 1440, 1, 1440, 1441, 1, 1441, 1440, 1, math.MaxInt, math.MinInt, 0, 0, 0) {
		list = append(list, badCalendar{shift.Calendar{Shifts: []api.Shift{s}}, api.ErrRange}, badCalendar{shift.Calendar{Shifts: []api.Shift{{Weekday: 2, To: 9}, {Weekday: 1, To: 9}, s}, Free: []int{4, 4}}, api.ErrRange}, badCalendar{shift.Calendar{Shifts: append([]api.Shift{s}, example.Shifts...)}, api.ErrRange})
	}
	for _, d := range []int{-1, last + 1, math.MinInt, math.MaxInt} {
		list = append(list, badCalendar{shift.Calendar{Free: []int{d}}, api.ErrRange}, badCalendar{shift.Calendar{Shifts: week(2, 0, 9, 1, 0, 9), Free: []int{3, 3, d}}, api.ErrRange}, badCalendar{shift.Calendar{Shifts: example.Shifts, Free: []int{d, 3}}, api.ErrRange})
	}
	for _, s := range [][]api.Shift{
		week(2, 0, 9, 1, 0, 9), week(1, 10, 20, 1, 0, 9), week(1, 10, 20, 1, 0, 10), week(1, 0, 9, 1, 0, 9), week(1, 0, 9, 1, 8, 10), week(1, 0, 9, 1, 0, 10), week(1, 0, day, 1, 5, 6), week(1, 5, 6, 1, 0, day), week(1, 0, 1, 7, 0, 9, 7, 3, 5), week(1, 0, 1, 3, 0, 1, 2, 5, 6), week(7, 0, 1, 1, 5, 6), week(5, 0, 2, 5, 1, 3, 5, 4, 5),
	} {
		list = append(list, badCalendar{shift.Calendar{Shifts: s}, api.ErrDuplicate}, badCalendar{shift.Calendar{Shifts: s, Free: example.Free}, api.ErrDuplicate})
	}
	for _, free := range [][]int{{0, 0}, {1, 0}, {last, last}, {last, 0}, {1, 2, 3, 3}, {1, 5, 4, 6}} {
		list = append(list, badCalendar{shift.Calendar{Free: free}, api.ErrDuplicate}, badCalendar{shift.Calendar{Shifts: example.Shifts, Free: free}, api.ErrDuplicate})
	}
	return list
}

// ofMinutes has the functions of two numbers; each tells its result and its error. Those of one number ignore the second one.
func ofMinutes() map[string]func(c shift.Calendar, a, b int) (int, api.Errno) {
	return map[string]func(c shift.Calendar, a, b int) (int, api.Errno){
		"Open": func(c shift.Calendar, a, _ int) (int, api.Errno) {
			open, e := shift.Open(c, a)
			if open {
				return 1, e
			}
			return 0, e
		},
		"Next":   func(c shift.Calendar, a, _ int) (int, api.Errno) { return shift.Next(c, a) },
		"Work":   shift.Work,
		"After":  shift.After,
		"Before": shift.Before,
		"Whole":  shift.Whole,
	}
}

// want tests a result of a function of ofMinutes.
func want(t *testing.T, name string, c shift.Calendar, a, b, result int) {
	t.Helper()
	if got, e := ofMinutes()[name](c, a, b); e != api.OK || got != result {
		t.Errorf("%s of %d and %d in %v: %d, %d, not %d", name, a, b, c, got, e, result)
	}
}

// wantError tests an error of a function of ofMinutes.
func wantError(t *testing.T, name string, c shift.Calendar, a, b int, code api.Errno) {
	t.Helper()
	if got, e := ofMinutes()[name](c, a, b); e != code || got != 0 {
		t.Errorf("%s of %d and %d in %v: %d, %d, not the error %d", name, a, b, c, got, e, code)
	}
}

func TestSignatures(t *testing.T) {
	var (
		_ func(shift.Calendar) api.Errno                          = shift.Check
		_ func(shift.Calendar, int) (bool, api.Errno)             = shift.Open
		_ func(c shift.Calendar, from, to int) (int, api.Errno)   = shift.Work
		_ func(shift.Calendar, int) (int, api.Errno)              = shift.Next
		_ func(c shift.Calendar, from, work int) (int, api.Errno) = shift.After
		_ func(c shift.Calendar, to, work int) (int, api.Errno)   = shift.Before
		_ func(c shift.Calendar, from, work int) (int, api.Errno) = shift.Whole
		_ func(a, b shift.Calendar) (shift.Calendar, api.Errno)   = shift.Common
		_ func(shift.Calendar) (int, api.Errno)                   = shift.Week
		_ struct {
			Shifts []api.Shift
			Free   []int
		} = shift.Calendar{}
	)
	if shift.MaxShifts != 64 || shift.MaxFree != 64 || shift.MaxMinute != 14400000 {
		t.Error("the limits are others")
	}
}

func TestExamples(t *testing.T) {
	if n, e := shift.Week(example); e != api.OK || n != 540 {
		t.Errorf("Week: %d, %d", n, e)
	}
	want(t, "Work", example, 0, 10080, 540)
	want(t, "Next", example, 720, 0, 780)
	want(t, "Next", example, 960, 0, 1920)
	want(t, "After", example, 700, 30, 790)
	want(t, "Before", example, 790, 30, 700)
	want(t, "Whole", example, 0, 200, 480)
	want(t, "Whole", example, 600, 130, 780)
	want(t, "Whole", example, 800, 200, 20640)
}

func TestCheck(t *testing.T) {
	for _, c := range goodCalendars() {
		if e := shift.Check(c); e != api.OK {
			t.Errorf("Check of %v: %d", c, e)
		}
	}
	for _, bad := range badCalendars() {
		if e := shift.Check(bad.c); e != bad.want {
			t.Errorf("Check of %v: %d, not %d", bad.c, e, bad.want)
		}
	}
}

func TestErrorsOfCalendars(t *testing.T) {
	for _, bad := range badCalendars() {
		for name := range ofMinutes() {
			wantError(t, name, bad.c, 0, 0, bad.want)
			wantError(t, name, bad.c, end, end, bad.want)
			wantError(t, name, bad.c, -1, -1, bad.want)
			wantError(t, name, bad.c, end+1, math.MinInt, bad.want)
		}
		if n, e := shift.Week(bad.c); e != bad.want || n != 0 {
			t.Errorf("Week of %v: %d, %d, not %d", bad.c, n, e, bad.want)
		}
		for _, good := range goodCalendars() {
			wantNothingInCommon(t, bad.c, good, bad.want)
			wantNothingInCommon(t, good, bad.c, bad.want)
		}
		for _, other := range badCalendars() {
			wantNothingInCommon(t, bad.c, other.c, bad.want)
		}
	}
}

func TestErrorsOfMinutes(t *testing.T) {
	for _, c := range goodCalendars() {
		for _, n := range []int{-1, end + 1, math.MinInt, math.MaxInt, 1 << 32, -1 << 32} {
			for name := range ofMinutes() {
				for _, other := range []int{0, 500, end, -1, end + 1} {
					wantError(t, name, c, n, other, api.ErrRange)
					if name != "Open" && name != "Next" {
						wantError(t, name, c, other, n, api.ErrRange)
					}
				}
			}
		}
		for _, pair := range [][2]int{{1, 0}, {end, 0}, {end, end - 1}, {800, 799}} {
			wantError(t, "Work", c, pair[0], pair[1], api.ErrRange)
		}
	}
}

func TestOpen(t *testing.T) {
	for minute, open := range map[int]int{0: 0, 479: 0, 480: 1, 719: 1, 720: 0, 779: 0, 780: 1, 959: 1, 960: 0, day + 479: 0, day + 480: 1, day + 599: 1, day + 600: 0, 2*day + 500: 0, 7*day + 500: 0, 8*day + 480: 1, 14*day + 480: 1, 9996*day + 480: 1, 9996*day + 960: 0, 9997*day + 480: 1, last*day + 500: 0, end - 1: 0, end: 0} {
		want(t, "Open", example, minute, 0, open)
	}
	for minute, open := range map[int]int{0: 1, 1439: 1, 1440: 1, end / 2: 1, end - 1: 1, end: 0} {
		want(t, "Open", always, minute, 0, open)
		want(t, "Open", shift.Calendar{}, minute, 0, 0)
	}
	touching := shift.Calendar{Shifts: week(3, 0, 720, 3, 720, 721, 3, 721, day)}
	for minute, open := range map[int]int{2*day - 1: 0, 2 * day: 1, 2*day + 719: 1, 2*day + 720: 1, 2*day + 721: 1, 3*day - 1: 1, 3 * day: 0} {
		want(t, "Open", touching, minute, 0, open)
	}
}

func TestFreeDaysAtBothEnds(t *testing.T) {
	c := shift.Calendar{Shifts: always.Shifts, Free: []int{0, 3, 4, last}}
	want(t, "Work", c, 0, end, end-4*day)
	want(t, "Work", c, 0, day, 0)
	want(t, "Work", c, last*day-1, end, 1)
	want(t, "Next", c, 0, 0, day)
	want(t, "Next", c, 3*day-1, 0, 3*day-1)
	want(t, "Next", c, 3*day, 0, 5*day)
	want(t, "Next", c, last*day-1, 0, last*day-1)
	wantError(t, "Next", c, last*day, 0, api.ErrNone)
	want(t, "After", c, 0, 1, day+1)
	want(t, "After", c, 0, 2*day, 3*day)
	want(t, "After", c, 0, 2*day+1, 5*day+1)
	want(t, "After", c, 0, end-4*day, last*day)
	wantError(t, "After", c, 0, end-4*day+1, api.ErrNone)
	want(t, "Before", c, end, 0, end)
	want(t, "Before", c, end, 1, last*day-1)
	want(t, "Before", c, 5*day, 1, 3*day-1)
	want(t, "Before", c, 5*day, 2*day, day)
	wantError(t, "Before", c, 5*day, 2*day+1, api.ErrNone)
	want(t, "Before", c, end, end-4*day, day)
	want(t, "Whole", c, 0, 2*day, day)
	want(t, "Whole", c, 0, 2*day+1, 5*day)
	want(t, "Whole", c, 0, (last-5)*day, 5*day)
	wantError(t, "Whole", c, 0, (last-5)*day+1, api.ErrNone)
}

func TestEndsOfTime(t *testing.T) {
	late, early := shift.Calendar{Shifts: week(4, 1439, day)}, shift.Calendar{Shifts: week(1, 0, 1)}
	// Day 9999 is a Thursday.
	want(t, "Open", late, end-1, 0, 1)
	want(t, "Open", late, end, 0, 0)
	want(t, "Open", early, 0, 0, 1)
	for _, c := range []shift.Calendar{late, early, always, example, {}} {
		want(t, "Work", c, end, end, 0)
		want(t, "Work", c, 0, 0, 0)
		want(t, "After", c, end, 0, end)
		want(t, "After", c, 0, 0, 0)
		want(t, "Before", c, 0, 0, 0)
		want(t, "Before", c, end, 0, end)
		wantError(t, "Next", c, end, 0, api.ErrNone)
		wantError(t, "Whole", c, end, 0, api.ErrNone)
		wantError(t, "After", c, end, 1, api.ErrNone)
		wantError(t, "Before", c, 0, 1, api.ErrNone)
		wantError(t, "After", c, 1, end, api.ErrNone)
		wantError(t, "Before", c, end-1, end, api.ErrNone)
		wantError(t, "Whole", c, 1, end, api.ErrNone)
	}
	want(t, "Work", late, end-1, end, 1)
	want(t, "Next", late, end-1, 0, end-1)
	want(t, "After", late, end-1, 1, end)
	want(t, "Before", late, end, 1, end-1)
	want(t, "Whole", late, end-1, 1, end-1)
	wantError(t, "Whole", late, end-1, 2, api.ErrNone)
	want(t, "Work", early, 0, 1, 1)
	want(t, "Next", early, 1, 0, 7*day)
	want(t, "Before", early, 7*day, 1, 0)
	for _, name := range []string{"After", "Whole"} {
		wantError(t, name, late, 0, end, api.ErrNone)
	}
	want(t, "Work", always, 0, end, end)
	want(t, "After", always, 0, end, end)
	want(t, "Before", always, end, end, 0)
	want(t, "Whole", always, 0, end, 0)
	want(t, "Whole", always, 7, end-7, 7)
	wantError(t, "Whole", always, 8, end-7, api.ErrNone)
	want(t, "Next", always, end-1, 0, end-1)
	want(t, "After", always, 9, end-9, end)
	want(t, "Before", always, end-9, end-9, 0)
}

func TestNoShifts(t *testing.T) {
	for _, c := range []shift.Calendar{{}, {Free: []int{0, 5, last}}, {Shifts: []api.Shift{}}} {
		want(t, "Work", c, 0, end, 0)
		want(t, "After", c, 77, 0, 77)
		want(t, "Before", c, 77, 0, 77)
		for _, work := range []int{0, 1, end} {
			wantError(t, "Next", c, 0, work, api.ErrNone)
			wantError(t, "Whole", c, 0, work, api.ErrNone)
			if work > 0 {
				wantError(t, "After", c, 0, work, api.ErrNone)
				wantError(t, "Before", c, end, work, api.ErrNone)
			}
		}
		if n, e := shift.Week(c); e != api.OK || n != 0 {
			t.Errorf("Week of %v: %d, %d", c, n, e)
		}
	}
}

func TestWhole(t *testing.T) {
	// From Sunday 1300 to Monday 300, and from Tuesday 1200 to Wednesday 400; Monday 14 is free.
	night := shift.Calendar{Shifts: week(1, 0, 300, 2, 1200, day, 3, 0, 200, 3, 200, 400, 7, 1300, day), Free: []int{14}}
	want(t, "Whole", night, 0, 0, 0)
	want(t, "Whole", night, 0, 300, 0)
	want(t, "Whole", night, 0, 301, day+1200)
	want(t, "Whole", night, 0, 640, day+1200)
	want(t, "Whole", night, day+1201, 640, 8*day+1200)
	want(t, "Whole", night, day+1201, 639, day+1201)
	want(t, "Whole", night, 2*day+199, 201, 2*day+199)
	want(t, "Whole", night, 2*day+199, 202, 6*day+1300)
	want(t, "Whole", night, 2*day+400, 440, 6*day+1300)
	want(t, "Whole", night, 2*day+400, 441, 8*day+1200)
	want(t, "Whole", night, 13*day, 140, 13*day+1300)
	want(t, "Whole", night, 13*day, 141, 15*day+1200)
	want(t, "Whole", night, 10*day, 440, 15*day+1200)
	want(t, "Whole", night, 17*day, 440, 20*day+1300)
	wantError(t, "Whole", night, 0, 641, api.ErrNone)
	want(t, "Whole", night, 300, 0, day+1200)
	want(t, "Whole", night, 299, 0, 299)
	want(t, "Whole", night, 299, 1, 299)
	want(t, "Whole", night, 299, 2, day+1200)
	// A gap of one minute, and free days in a row.
	gap := shift.Calendar{Shifts: week(2, 0, 700, 2, 701, day), Free: []int{1, 8, 9}}
	want(t, "Whole", gap, 0, 700, 15*day)
	want(t, "Whole", gap, 0, 701, 15*day+701)
	wantError(t, "Whole", gap, 0, 740, api.ErrNone)
}

func TestWeek(t *testing.T) {
	for _, c := range goodCalendars() {
		sum := 0
		for _, s := range c.Shifts {
			sum += s.To - s.From
		}
		n, e := shift.Week(c)
		if e != api.OK || n != sum {
			t.Errorf("Week of %v: %d, %d, not %d", c, n, e, sum)
		}
		// No calendar has a free day from day 700 to day 709.
		want(t, "Work", c, 700*day, 707*day, n)
		want(t, "Work", c, 703*day+500, 710*day+500, n)
	}
	if n, e := shift.Week(always); e != api.OK || n != 7*day {
		t.Errorf("Week: %d, %d", n, e)
	}
}

func TestArgumentsAreNotChanged(t *testing.T) {
	calendars := goodCalendars()
	for _, c := range calendars {
		for _, call := range ofMinutes() {
			call(c, 5, 500)
		}
		shift.Week(c)
		for _, d := range calendars {
			both, _ := shift.Common(c, d)
			again, _ := shift.Common(c, d)
			for i := range both.Shifts {
				both.Shifts[i] = api.Shift{}
			}
			for i := range both.Free {
				both.Free[i] = -1
			}
			if third, _ := shift.Common(c, d); !same(again, third) {
				t.Errorf("Common of %v and %v shares memory", c, d)
			}
		}
	}
	if !reflect.DeepEqual(calendars, goodCalendars()) {
		t.Errorf("changed: %v", calendars)
	}
}
