package box

import "gangsaw/api"

// Subtract returns the points of a that are not in b, as disjoint boxes in a stated order.
func Subtract(a, b api.Box) ([]api.Box, api.Errno) {
	if e := checkAll(a, b); e != api.OK {
		return nil, e
	}
	return appendRest(nil, a, b), api.OK
}

// Rest returns the points of a box that lie in none of a list, as disjoint boxes in a stated order.
func Rest(b api.Box, list []api.Box) ([]api.Box, api.Errno) {
	if e := checkList(list, b); e != api.OK {
		return nil, e
	}
	parts := []api.Box{b}
	for _, taken := range list {
		var left []api.Box
		for _, part := range parts {
			left = appendRest(left, part, taken)
		}
		if len(left) > MaxPieces {
			return nil, api.ErrTooMany
		}
		parts = left
	}
	return parts, api.OK
}

// appendRest appends what is left of a without b.
func appendRest(parts []api.Box, a, b api.Box) []api.Box {
	c := common(a, b)
	if empty(c) {
		return append(parts, a)
	}
	add := func(low, high [3]int) {
		if part := (api.Box{Min: vectorOf(low), Max: vectorOf(high)}); !empty(part) {
			parts = append(parts, part)
		}
	}
	// From z to x, what lies beyond c is cut off, and what has the range of c remains.
	low, high := coordinates(a.Min), coordinates(a.Max)
	from, to := coordinates(c.Min), coordinates(c.Max)
	for axis := api.AxisZ; axis >= api.AxisX; axis-- {
		before, behind := high, low
		before[axis], behind[axis] = from[axis], to[axis]
		add(low, before)
		add(behind, high)
		low[axis], high[axis] = from[axis], to[axis]
	}
	return parts
}
