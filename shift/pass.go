package shift

import (
	"iter"
	"slices"

	"gangsaw/api"
)

const (
	dayLength = 1440
	days      = MaxMinute / dayLength
)

// shifts visits the shifts of a day with their first minutes and those behind their last ones. No day begins at MaxMinute.
func shifts(c Calendar, day int) iter.Seq2[int, int] {
	return func(yield func(from, to int) bool) {
		if _, free := slices.BinarySearch(c.Free, day); free || day >= days {
			return
		}
		weekday, begin := day%7+1, day*dayLength
		first, _ := slices.BinarySearchFunc(c.Shifts, weekday, func(s api.Shift, weekday int) int { return s.Weekday - weekday })
		for _, s := range c.Shifts[first:] {
			if s.Weekday != weekday || !yield(begin+s.From, begin+s.To) {
				return
			}
		}
	}
}

// shiftsSince visits what is left of all shifts from a minute on.
func shiftsSince(c Calendar, minute int) iter.Seq2[int, int] {
	return func(yield func(from, to int) bool) {
		for day := minute / dayLength; day < days; day++ {
			for from, to := range shifts(c, day) {
				if to > minute && !yield(max(from, minute), to) {
					return
				}
			}
		}
	}
}

// count returns the number of minutes of work from one minute to another one.
func count(c Calendar, from, to int) int {
	sum := 0
	for lo, hi := range shiftsSince(c, from) {
		if lo >= to {
			break
		}
		sum += min(hi, to) - lo
	}
	return sum
}

// pass returns the first minute at which so many minutes of work have passed since a minute.
func pass(c Calendar, from, work int) (int, api.Errno) {
	if work == 0 {
		return from, api.OK
	}
	for lo, hi := range shiftsSince(c, from) {
		if work <= hi-lo {
			return lo + work, api.OK
		}
		work -= hi - lo
	}
	return 0, api.ErrNone
}
