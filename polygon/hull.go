package polygon

import (
	"slices"

	"gangsaw/api"
)

// MaxPoints is the greatest number of points of a hull.
const MaxPoints = 1000

// Hull returns the convex hull of points, counterclockwise, from the least corner on.
func Hull(list []api.Point) (api.Polygon, api.Errno) {
	if len(list) > MaxPoints {
		return nil, api.ErrTooMany
	}
	if !allowed(list...) {
		return nil, api.ErrRange
	}
	points := slices.Clone(list)
	slices.SortFunc(points, compare)

	var hull api.Polygon
	// half adds the corners from the first point to the last one, but for the last one, with which the other half begins.
	half := func() {
		from := len(hull)
		for _, p := range points {
			for len(hull) >= from+2 && Orient(hull[len(hull)-2], hull[len(hull)-1], p) != 1 {
				hull = hull[:len(hull)-1]
			}
			hull = append(hull, p)
		}
		hull = hull[:max(len(hull)-1, from)]
	}
	half()
	slices.Reverse(points)
	half()
	if len(hull) < 3 {
		return nil, api.ErrNone
	}
	return hull, api.OK
}
