package plane

import (
	"gangsaw/api"
	"gangsaw/box"
)

// Extremes returns the least and the greatest value of the corners of a box.
func Extremes(h api.Half, b api.Box) (int64, int64, api.Errno) {
	if e := checkBoth(h, b); e != api.OK {
		return 0, 0, e
	}
	least, greatest := extremes(h, b)
	return least, greatest, api.OK
}

// Side returns the position of a box.
func Side(h api.Half, b api.Box) (int, api.Errno) {
	if e := checkBoth(h, b); e != api.OK {
		return 0, e
	}
	least, greatest := extremes(h, b)
	switch {
	case greatest <= 0:
		return Inside, api.OK
	case least >= 0:
		return Outside, api.OK
	}
	return Across, api.OK
}

// Hull returns the least box that contains all unit cells of a box that lie in a half-space.
func Hull(h api.Half, b api.Box) (api.Box, api.Errno) {
	if e := checkBoth(h, b); e != api.OK {
		return api.Box{}, e
	}
	// The deepest cell lies at the corner with the least value; room is what its own greatest value lacks to 0. Along each axis, the cells behind it lie in the half-space as long as room lasts.
	least, _ := extremes(h, b)
	room := -least
	for _, c := range coefficients(h) {
		room -= max(c, -c)
	}
	if room < 0 {
		return api.Box{}, api.ErrNone
	}
	low, high := coordinates(b.Min), coordinates(b.Max)
	for axis, c := range coefficients(h) {
		switch {
		case c > 0:
			high[axis] = min(high[axis], low[axis]+1+room/c)
		case c < 0:
			low[axis] = max(low[axis], high[axis]-1-room/-c)
		}
	}
	return api.Box{Min: vectorOf(low), Max: vectorOf(high)}, api.OK
}

// Depth returns the greatest distance, at most most, by which a box that lies in a half-space can be moved in a direction so that it stays there.
func Depth(h api.Half, b api.Box, direction, most int) (int, api.Errno) {
	if e := checkBoth(h, b); e != api.OK {
		return 0, e
	}
	if direction < api.PlusX || direction > api.MinusZ || most < 0 || most > api.MaxCoord {
		return 0, api.ErrRange
	}
	_, greatest := extremes(h, b)
	if greatest > 0 {
		return 0, api.ErrState
	}
	rise := coefficients(h)[direction/2]
	if direction%2 == 1 {
		rise = -rise
	}
	if rise <= 0 {
		return most, api.OK
	}
	return int(min(int64(most), -greatest/rise)), api.OK
}

// checkBoth returns the first error of a half-space and a box.
func checkBoth(h api.Half, b api.Box) api.Errno {
	if e := Check(h); e != api.OK {
		return e
	}
	return box.Check(b)
}

// extremes is Extremes for a valid half-space and a valid box.
func extremes(h api.Half, b api.Box) (least, greatest int64) {
	low, high := coordinates(b.Min), coordinates(b.Max)
	least, greatest = -h.D, -h.D
	for axis, c := range coefficients(h) {
		least += min(c*low[axis], c*high[axis])
		greatest += max(c*low[axis], c*high[axis])
	}
	return least, greatest
}

func vectorOf(c [3]int64) api.Vec {
	return api.Vec{X: int(c[0]), Y: int(c[1]), Z: int(c[2])}
}
