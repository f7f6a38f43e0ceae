package box

import "gangsaw/api"

// Limits of lists.
const (
	MaxBoxes  = 256  // boxes of a list
	MaxPieces = 4096 // boxes of a result
)

// Gap returns the least point of a box (by z, then y, then x) that lies in none of a list.
func Gap(b api.Box, list []api.Box) (api.Vec, api.Errno) {
	if e := checkList(list, b); e != api.OK {
		return api.Vec{}, e
	}
	var within []api.Box
	for _, other := range list {
		if c := common(b, other); !empty(c) {
			within = append(within, c)
		}
	}
	gap, e := api.Vec{}, api.ErrNone
	eachRow(cutsOf(append(within, b)), within, func(r row) bool {
		end := b.Min.X
		for _, c := range r.boxes {
			if c.Min.X <= end {
				end = max(end, c.Max.X)
			}
		}
		if end < b.Max.X {
			gap, e = api.Vec{X: end, Y: r.y, Z: r.z}, api.OK
		}
		return e != api.OK
	})
	return gap, e
}

// Total returns the volume of the union of boxes.
func Total(list []api.Box) (int64, api.Errno) {
	if e := checkList(list); e != api.OK {
		return 0, e
	}
	total := int64(0)
	eachRow(cutsOf(list), list, func(r row) bool {
		end := -api.MaxCoord
		for _, b := range r.boxes {
			total += r.across * int64(max(b.Max.X-max(b.Min.X, end), 0))
			end = max(end, b.Max.X)
		}
		return true
	})
	return total, api.OK
}

// Clash returns the indices of the first pair of boxes that overlap.
func Clash(list []api.Box) (int, int, api.Errno) {
	if e := checkList(list); e != api.OK {
		return 0, 0, e
	}
	for i := range list {
		for k := i + 1; k < len(list); k++ {
			if Overlap(list[i], list[k]) {
				return i, k, api.OK
			}
		}
	}
	return 0, 0, api.ErrNone
}

// Partition returns OK if boxes are disjoint, lie in a box and fill it, or the first error.
func Partition(b api.Box, list []api.Box) api.Errno {
	if e := checkList(list, b); e != api.OK {
		return e
	}
	for _, part := range list {
		if !Inside(part, b) {
			return api.ErrOutside
		}
	}
	if _, _, e := Clash(list); e == api.OK {
		return api.ErrOverlap
	}
	left := volume(b)
	for _, part := range list {
		left -= volume(part)
	}
	if left > 0 {
		return api.ErrNone
	}
	return api.OK
}

// checkList returns the first error of a list, and of boxes that are given before it.
func checkList(list []api.Box, before ...api.Box) api.Errno {
	if len(list) > MaxBoxes {
		return api.ErrTooMany
	}
	if e := checkAll(before...); e != api.OK {
		return e
	}
	return checkAll(list...)
}
