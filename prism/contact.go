package prism

import (
	"gangsaw/api"
	"gangsaw/box"
)

// The sides of a rectangle that Separator returns.
const (
	leastX = 1000 + iota
	greatestX
	leastY
	greatestY
)

// Overlaps reports whether a prism and a box have a common part of positive volume.
func Overlaps(p api.Prism, b api.Box) (bool, api.Errno) {
	if e := checkBoth(p, b); e != api.OK {
		return false, e
	}
	return box.Overlap(hull(p), b) && separator(p.Base, rectangle(b)) < 0, api.OK
}

// Covers reports whether a box lies within a prism.
func Covers(p api.Prism, b api.Box) (bool, api.Errno) {
	if e := checkBoth(p, b); e != api.OK {
		return false, e
	}
	if b.Min.Z < p.Lo || b.Max.Z > p.Hi {
		return false, api.OK
	}
	corners := rectangle(b)
	for _, e := range edges(p.Base) {
		if least, _ := e.turns(corners); least < 0 {
			return false, api.OK
		}
	}
	return true, api.OK
}

// Meets reports whether two prisms have a common part of positive volume.
func Meets(p, q api.Prism) (bool, api.Errno) {
	if e := Check(p); e != api.OK {
		return false, e
	}
	if e := Check(q); e != api.OK {
		return false, e
	}
	// If a line separates two convex bases, then that of an edge of one of them does.
	return box.Overlap(hull(p), hull(q)) && separator(p.Base, q.Base) < 0 && separator(q.Base, p.Base) < 0, api.OK
}

// Separator returns an edge of a prism's base, or a side of a rectangle (from 1000 on), that separates them, or -1.
func Separator(p api.Prism, b api.Box) (int, api.Errno) {
	if e := checkBoth(p, b); e != api.OK {
		return 0, e
	}
	if i := separator(p.Base, rectangle(b)); i >= 0 {
		return i, api.OK
	}
	around := hull(p)
	switch {
	case around.Max.X <= b.Min.X:
		return leastX, api.OK
	case around.Min.X >= b.Max.X:
		return greatestX, api.OK
	case around.Max.Y <= b.Min.Y:
		return leastY, api.OK
	case around.Min.Y >= b.Max.Y:
		return greatestY, api.OK
	}
	return -1, api.OK
}

// separator returns the least edge of a base that has none of some corners on its left, or -1.
func separator(base, corners api.Polygon) int {
	for i, e := range edges(base) {
		if _, greatest := e.turns(corners); greatest <= 0 {
			return i
		}
	}
	return -1
}
