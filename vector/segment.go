package vector

import (
	"cmp"

	"gangsaw/api"
)

// Turn returns 1 if the way from a by b to c turns to the left, -1 if it turns to the right, and 0 if the points lie on a line.
func Turn(a, b, c api.Point) (int, api.Errno) {
	if e := checkPoints(a, b, c); e != api.OK {
		return 0, e
	}
	return turn(a, b, c), api.OK
}

// On reports whether a point lies on the segment from a to b, its ends included.
func On(a, b, p api.Point) (bool, api.Errno) {
	if e := checkPoints(a, b, p); e != api.OK {
		return false, e
	}
	return meet(a, b, p, p) > 0, api.OK
}

// Meet returns how many points two segments have in common: 0, 1, or 2 for more than one.
func Meet(a, b, c, d api.Point) (int, api.Errno) {
	if e := checkPoints(a, b, c, d); e != api.OK {
		return 0, e
	}
	return meet(a, b, c, d), api.OK
}

func checkPoints(points ...api.Point) api.Errno {
	for _, p := range points {
		if e := Check(flat(p)); e != api.OK {
			return e
		}
	}
	return api.OK
}

func flat(p api.Point) api.Vec {
	return api.Vec{X: p.X, Y: p.Y}
}

func turn(a, b, c api.Point) int {
	p, q := coordinates(flat(a)), coordinates(flat(b))
	r := coordinates(flat(c))
	return cmp.Compare((q[0]-p[0])*(r[1]-p[1]), (q[1]-p[1])*(r[0]-p[0]))
}

func meet(a, b, c, d api.Point) int {
	ofC, ofD := turn(a, b, c), turn(a, b, d)
	ofA, ofB := turn(c, d, a), turn(c, d, b)
	if ofA == 0 && ofB == 0 && ofC == 0 && ofD == 0 {
		return overlap(a, b, c, d)
	}
	// The segments are not on one line, so they have at most one point in common, and none if both ends of one lie on the same side of the other.
	if ofA*ofB > 0 || ofC*ofD > 0 {
		return 0
	}
	return 1
}

// overlap is meet for points on one line, along which the order of Compare runs one way: the common part is empty, a point or longer as it ends before, at or behind its beginning.
func overlap(a, b, c, d api.Point) int {
	from, to := ordered(a, b)
	otherFrom, otherTo := ordered(c, d)
	_, from = ordered(from, otherFrom)
	to, _ = ordered(to, otherTo)
	return 1 + Compare(flat(to), flat(from))
}

func ordered(a, b api.Point) (api.Point, api.Point) {
	if Compare(flat(a), flat(b)) > 0 {
		return b, a
	}
	return a, b
}
