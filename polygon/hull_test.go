package polygon_test

import (
	"cmp"
	"math"
	"math/rand"
	"slices"
	"testing"

	"gangsaw/api"
	"gangsaw/polygon"
)

func order(a, b api.Point) int {
	return cmp.Or(cmp.Compare(a.X, b.X), cmp.Compare(a.Y, b.Y))
}

// slowHull follows the sides of the hull: a side leads from a to b if all other points lie to its left or on it.
func slowHull(list []api.Point) api.Polygon {
	side := map[api.Point]api.Point{}
	for _, a := range list {
		for _, b := range list {
			outer := a != b
			for _, c := range list {
				turn := (b.X-a.X)*(c.Y-a.Y) - (b.Y-a.Y)*(c.X-a.X)
				beyond := (c.X-a.X)*(c.X-b.X)+(c.Y-a.Y)*(c.Y-b.Y) > 0
				if turn < 0 || turn == 0 && beyond {
					outer = false
				}
			}
			if outer {
				side[a] = b
			}
		}
	}
	if len(side) < 3 {
		return nil
	}
	hull := api.Polygon{slices.MinFunc(list, order)}
	for len(hull) < len(side) {
		hull = append(hull, side[hull[len(hull)-1]])
	}
	return hull
}

func wantHull(t *testing.T, list []api.Point, want api.Polygon) {
	t.Helper()
	wantError := api.OK
	if want == nil {
		wantError = api.ErrNone
	}
	before := slices.Clone(list)
	if p, e := polygon.Hull(list); !slices.Equal(p, want) || e != wantError {
		t.Errorf("Hull of %v: %v, %d, not %v", list, p, e, want)
	}
	if !slices.Equal(list, before) {
		t.Errorf("Hull changes its argument %v", before)
	}
}

func TestHull(t *testing.T) {
	for _, c := range [][2]api.Polygon{
		{poly(0, 0, 4, 0, 2, 0, 2, 1, 2, 5), poly(0, 0, 4, 0, 2, 5)}, {poly(0, 0, 1, 1, 2, 2), nil}, {nil, nil}, {{}, nil}, {poly(3, 3), nil}, {poly(3, 3, 4, 4), nil},
		{poly(3, 3, 3, 3, 3, 3), nil}, {poly(5, 5, 1, 5, 3, 5, 1, 5), nil}, {poly(5, 1, 5, 9, 5, 4), nil}, {poly(0, 9, 9, 0, 4, 5, 5, 4), nil},
		{poly(0, 0, 4, 0, 0, 0, 2, 5, 4, 0, 2, 5), poly(0, 0, 4, 0, 2, 5)}, {poly(2, 5, 4, 0, 0, 0), poly(0, 0, 4, 0, 2, 5)}, {poly(0, 5, 0, 0, 0, 3, 4, 4), poly(0, 0, 4, 4, 0, 5)},
		{poly(10, 10, 0, 10, 5, 10, 0, 5, 5, 5, 0, 0, 10, 5, 5, 0, 10, 0), poly(0, 0, 10, 0, 10, 10, 0, 10)}, {poly(0, 0, 10, 10, 10, 0, 0, 10), poly(0, 0, 10, 0, 10, 10, 0, 10)},
		{poly(top, top, -top, -top, top, -top, -top, top, 0, 0, top, 0), poly(-top, -top, top, -top, top, top, -top, top)},
		{poly(-top, -top, top, top, top-1, top-1), nil}, {poly(-top, -top, top, top-1, top-1, top-1), poly(-top, -top, top, top-1, top-1, top-1)},
		{poly(-top, -top, top, top-1, top-1, top-2), poly(-top, -top, top-1, top-2, top, top-1)},
	} {
		wantHull(t, c[0], c[1])
		wantHull(t, polygon.Reverse(c[0]), c[1])
	}
}

func TestErrorsOfHull(t *testing.T) {
	for _, far := range []api.Point{at(top+1, 0), at(0, top+1), at(-top-1, 0), at(0, -top-1), at(math.MaxInt, math.MinInt), at(0, math.MinInt)} {
		for _, list := range [][]api.Point{{far}, {far, far}, {far, at(0, 0), at(1, 1)}, {at(0, 0), at(4, 0), at(2, 5), far}, append(make([]api.Point, polygon.MaxPoints-1), far)} {
			if p, e := polygon.Hull(list); len(p) > 0 || e != api.ErrRange {
				t.Errorf("Hull of %v: %v, %d", list, p, e)
			}
		}
		for _, n := range []int{polygon.MaxPoints + 1, 20000} {
			long := slices.Repeat([]api.Point{far}, n)
			if p, e := polygon.Hull(long); len(p) > 0 || e != api.ErrTooMany {
				t.Errorf("Hull of %d points: %v, %d", n, p, e)
			}
		}
	}
	if p, e := polygon.Hull(bowl(polygon.MaxPoints + 1)); len(p) > 0 || e != api.ErrTooMany {
		t.Errorf("Hull of 1001 points: %v, %d", p, e)
	}
	wantHull(t, make([]api.Point, polygon.MaxPoints), nil)
}

// TestHullOfManyPoints has all points as corners, in a random order: there may be more than MaxCorners.
func TestHullOfManyPoints(t *testing.T) {
	random := rand.New(rand.NewSource(11))
	for _, n := range []int{api.MaxCorners, api.MaxCorners + 1, polygon.MaxPoints} {
		list := bowl(n)
		random.Shuffle(n, func(i, k int) { list[i], list[k] = list[k], list[i] })
		wantHull(t, list, bowl(n))
		list[n-1] = list[0]
		wantHull(t, list, slices.Compact(slices.SortedFunc(slices.Values(list), order)))
	}
}

func TestHullAgainstSlowHull(t *testing.T) {
	random := rand.New(rand.NewSource(13))
	for round := range 6000 {
		size := 2 + round%9
		var list []api.Point
		for range random.Intn(14) {
			list = append(list, at(random.Intn(size)-size/2, random.Intn(size)))
		}
		wantHull(t, list, slowHull(list))
	}
}

func TestHullIsConvexAndHasAllPoints(t *testing.T) {
	random := rand.New(rand.NewSource(17))
	for round := range 300 {
		var list []api.Point
		size := []int{9, 100, 2*top + 1}[round%3]
		for range 3 + random.Intn(60) {
			list = append(list, at(random.Intn(size)-size/2, random.Intn(size)-size/2))
		}
		hull, e := polygon.Hull(list)
		if e == api.ErrNone {
			continue
		}
		convex, e2 := polygon.Convex(hull)
		if e != api.OK || !convex || e2 != api.OK || hull[0] != slices.MinFunc(list, order) {
			t.Errorf("Hull of %v: %v, %d", list, hull, e)
		}
		for _, q := range list {
			if side, e := polygon.Side(hull, q); side < 0 || e != api.OK {
				t.Errorf("Hull of %v: %v, %v lies outside", list, hull, q)
			}
		}
		for _, q := range hull {
			if !slices.Contains(list, q) {
				t.Errorf("Hull of %v: %v has another corner", list, hull)
			}
		}
		if again, e := polygon.Hull(hull); !slices.Equal(again, hull) || e != api.OK {
			t.Errorf("Hull of the hull %v: %v", hull, again)
		}
		if canonical, e := polygon.Canonical(hull); !slices.Equal(canonical, hull) || e != api.OK {
			t.Errorf("Canonical of the hull %v: %v", hull, canonical)
		}
	}
}
