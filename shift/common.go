package shift

import (
	"slices"

	"gangsaw/api"
)

// Common returns the calendar in which there is work whenever there is in both.
func Common(a, b Calendar) (Calendar, api.Errno) {
	for _, c := range []Calendar{a, b} {
		if e := Check(c); e != api.OK {
			return Calendar{}, e
		}
	}
	free := slices.Concat(a.Free, b.Free)
	slices.Sort(free)
	both := Calendar{Shifts: joined(overlaps(a.Shifts, b.Shifts)), Free: slices.Compact(free)}
	if len(both.Shifts) > MaxShifts || len(both.Free) > MaxFree {
		return Calendar{}, api.ErrTooMany
	}
	return both, api.OK
}

// overlaps returns what each shift has in common with each of others, in order.
func overlaps(a, b []api.Shift) []api.Shift {
	var parts []api.Shift
	for _, s := range a {
		for _, other := range b {
			from, to := max(s.From, other.From), min(s.To, other.To)
			if s.Weekday == other.Weekday && from < to {
				parts = append(parts, api.Shift{Weekday: s.Weekday, From: from, To: to})
			}
		}
	}
	return parts
}

// joined makes one shift of neighbours that touch.
func joined(parts []api.Shift) []api.Shift {
	var list []api.Shift
	for _, s := range parts {
		last := len(list) - 1
		if last >= 0 && list[last].Weekday == s.Weekday && list[last].To == s.From {
			list[last].To = s.To
		} else {
			list = append(list, s)
		}
	}
	return list
}
