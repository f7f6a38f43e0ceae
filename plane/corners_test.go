package plane_test

import (
	"math"
	"math/rand"
	"testing"

	"gangsaw/api"
	"gangsaw/box"
	"gangsaw/plane"
)

// smallBoxes are all valid boxes with coordinates from low to high.
func smallBoxes(low, high int) []api.Box {
	var points []api.Vec
	for x := low; x <= high; x++ {
		for y := low; y <= high; y++ {
			for z := low; z <= high; z++ {
				points = append(points, vec(x, y, z))
			}
		}
	}
	var list []api.Box
	for _, p := range points {
		for _, q := range points {
			if b := (api.Box{Min: p, Max: q}); box.Check(b) == api.OK {
				list = append(list, b)
			}
		}
	}
	return list
}

func corners(b api.Box) []api.Vec {
	var list []api.Vec
	for _, x := range []int{b.Min.X, b.Max.X} {
		for _, y := range []int{b.Min.Y, b.Max.Y} {
			for _, z := range []int{b.Min.Z, b.Max.Z} {
				list = append(list, vec(x, y, z))
			}
		}
	}
	return list
}

func slowExtremes(h api.Half, b api.Box) (least, greatest int64) {
	least, greatest = math.MaxInt64, math.MinInt64
	for _, p := range corners(b) {
		least, greatest = min(least, value(h, p)), max(greatest, value(h, p))
	}
	return least, greatest
}

func isInside(h api.Half, b api.Box) bool {
	_, greatest := slowExtremes(h, b)
	return greatest <= 0
}

func cell(p api.Vec) api.Box {
	return bx(p.X, p.Y, p.Z, p.X+1, p.Y+1, p.Z+1)
}

// slowHull joins the cells that lie in a half-space, one by one.
func slowHull(h api.Half, b api.Box) (api.Box, api.Errno) {
	hull, e := api.Box{}, api.ErrNone
	for x := b.Min.X; x < b.Max.X; x++ {
		for y := b.Min.Y; y < b.Max.Y; y++ {
			for z := b.Min.Z; z < b.Max.Z; z++ {
				c := cell(vec(x, y, z))
				if !isInside(h, c) {
					continue
				}
				if e == api.ErrNone {
					hull, e = c, api.OK
				}
				hull = bx(min(hull.Min.X, x), min(hull.Min.Y, y), min(hull.Min.Z, z), max(hull.Max.X, x+1), max(hull.Max.Y, y+1), max(hull.Max.Z, z+1))
			}
		}
	}
	return hull, e
}

// moved may have coordinates that are not in range.
func moved(b api.Box, direction, t int) api.Box {
	if direction%2 == 1 {
		t = -t
	}
	switch direction / 2 {
	case api.AxisX:
		b.Min.X, b.Max.X = b.Min.X+t, b.Max.X+t
	case api.AxisY:
		b.Min.Y, b.Max.Y = b.Min.Y+t, b.Max.Y+t
	case api.AxisZ:
		b.Min.Z, b.Max.Z = b.Min.Z+t, b.Max.Z+t
	}
	return b
}

// far returns a random half-space with numbers of all sizes, and a box.
func far(random *rand.Rand) (api.Half, api.Box) {
	for {
		size := []int{2, 30, top}[random.Intn(3)]
		c := func() int { return max(min(random.Intn(2*size+1)-size+[]int{0, top, -top}[random.Intn(3)], top), -top) }
		n := func() int { return random.Intn(2*most+1) - most }
		b := bx(c(), c(), c(), c(), c(), c())
		h := half(n(), n()*random.Intn(2), n()*random.Intn(2), 0)
		if box.Check(b) != api.OK || plane.Check(h) != api.OK {
			continue
		}
		// The plane passes through the box, near its corner with the least value or anywhere.
		least, greatest := slowExtremes(h, b)
		wide := []int64{greatest - least, 3*most + 2}[random.Intn(2)]
		h.D = max(min(least+random.Int63n(wide+5)-2, topD), -topD)
		return h, b
	}
}

func wantExtremes(t *testing.T, h api.Half, b api.Box, least, greatest int64) {
	t.Helper()
	if l, g, e := plane.Extremes(h, b); l != least || g != greatest || e != api.OK {
		t.Errorf("Extremes of %v and %v: %d, %d, %d", h, b, l, g, e)
	}
	side := plane.Across
	if greatest <= 0 {
		side = plane.Inside
	} else if least >= 0 {
		side = plane.Outside
	}
	if s, e := plane.Side(h, b); s != side || e != api.OK {
		t.Errorf("Side of %v and %v: %d, %d", h, b, s, e)
	}
}

func wantHull(t *testing.T, h api.Half, b, want api.Box, wantError api.Errno) {
	t.Helper()
	if c, e := plane.Hull(h, b); c != want || e != wantError {
		t.Errorf("Hull of %v and %v: %v, %d, not %v, %d", h, b, c, e, want, wantError)
	}
}

func wantDepth(t *testing.T, h api.Half, b api.Box, direction, most, want int) {
	t.Helper()
	if n, e := plane.Depth(h, b, direction, most); n != want || e != api.OK {
		t.Errorf("Depth of %v and %v in the direction %d to %d: %d, %d, not %d", h, b, direction, most, n, e, want)
	}
}

func TestErrorsOfBoxes(t *testing.T) {
	for b, want := range badBoxes() {
		for _, h := range []api.Half{slope, half(most, -most, most, topD), half(-1, 0, 0, -topD)} {
			if least, greatest, e := plane.Extremes(h, b); least != 0 || greatest != 0 || e != want {
				t.Errorf("Extremes of %v: %d, %d, %d", b, least, greatest, e)
			}
			if side, e := plane.Side(h, b); side != 0 || e != want {
				t.Errorf("Side of %v: %d, %d", b, side, e)
			}
			wantHull(t, h, b, api.Box{}, want)
			for _, direction := range []int{0, 5, -1, 6} {
				for _, far := range []int{0, top, -1, top + 1} {
					if n, e := plane.Depth(h, b, direction, far); n != 0 || e != want {
						t.Errorf("Depth of %v: %d, %d", b, n, e)
					}
				}
			}
		}
	}
}

func TestErrorsOfDepth(t *testing.T) {
	inside, across, outside := bx(0, 0, 0, 4, 1, 3), bx(0, 0, 0, 5, 1, 3), bx(10, 0, 0, 11, 1, 1)
	wantError := func(b api.Box, direction, far int, want api.Errno) {
		t.Helper()
		if n, e := plane.Depth(slope, b, direction, far); n != 0 || e != want {
			t.Errorf("Depth of %v in the direction %d to %d: %d, %d, not %d", b, direction, far, n, e, want)
		}
	}
	for _, b := range []api.Box{inside, across, outside} {
		for _, direction := range []int{-1, 6, 7, -2, 1 << 32, math.MaxInt, math.MinInt} {
			wantError(b, direction, 0, api.ErrRange)
			wantError(b, direction, -1, api.ErrRange)
			wantError(b, direction, top, api.ErrRange)
		}
		for direction := range 6 {
			for _, far := range []int{-1, top + 1, -top, 1 << 32, math.MaxInt, math.MinInt} {
				wantError(b, direction, far, api.ErrRange)
			}
		}
	}
	for direction := range 6 {
		for _, far := range []int{0, 1, top} {
			wantError(across, direction, far, api.ErrState)
			wantError(outside, direction, far, api.ErrState)
		}
	}
}

func TestExtremesAndSide(t *testing.T) {
	for _, c := range []struct {
		h               api.Half
		b               api.Box
		least, greatest int64
	}{
		{slope, bx(0, 0, 0, 4, 1, 3), -10, 0}, {slope, bx(0, 0, 0, 5, 1, 3), -10, 1}, {slope, bx(10, 0, 0, 11, 1, 1), 0, 3}, {slope, bx(9, 0, 0, 11, 1, 1), -1, 3}, {slope, bx(0, -9, 0, 3, 9, 3), -10, -1},
		{half(most, most, most, -topD), whole, 1e9, 7e9}, {half(most, most, most, topD), whole, -7e9, -1e9}, {half(-most, most, -most, 0), whole, -3e9, 3e9}, {half(most, -most, 0, 3e9), whole, -5e9, -1e9},
		{half(0, 0, -most, 1e9), whole, -2e9, 0}, {half(0, 0, -most, -1e9), whole, 0, 2e9}, {half(0, 0, -most, 1-1e9), whole, -1, 2e9 - 1}, {half(0, 1, 0, 1e6), whole, -2e6, 0}, {half(0, 1, 0, 1e6-1), whole, 1 - 2e6, 1},
		{half(most, most, most, 0), bx(top-1, top-1, top-1, top, top, top), 3e9 - 3000, 3e9}, {half(most, -most, most, 0), bx(-top, top-1, -top, 1-top, top, 1-top), -3e9, 3000 - 3e9},
	} {
		wantExtremes(t, c.h, c.b, c.least, c.greatest)
	}
	for _, h := range smallHalves(2, 2) {
		for _, b := range smallBoxes(-1, 1) {
			least, greatest := slowExtremes(h, b)
			wantExtremes(t, h, b, least, greatest)
		}
	}
	random := rand.New(rand.NewSource(74))
	for range 5000 {
		h, b := far(random)
		least, greatest := slowExtremes(h, b)
		wantExtremes(t, h, b, least, greatest)
	}
}

func TestSidesOfSmallerBoxes(t *testing.T) {
	boxes := smallBoxes(0, 2)
	for _, h := range smallHalves(2, 4) {
		if h.A < 0 || h.B > h.C {
			continue
		}
		for _, outer := range boxes {
			side, _ := plane.Side(h, outer)
			for _, inner := range boxes {
				if !box.Inside(inner, outer) {
					continue
				}
				if s, e := plane.Side(h, inner); e != api.OK || side != plane.Across && s != side {
					t.Errorf("Side of %v and %v, in %v: %d, not %d", h, inner, outer, s, side)
				}
			}
		}
	}
}

func TestHull(t *testing.T) {
	for _, c := range []struct {
		h       api.Half
		b, want api.Box
		e       api.Errno
	}{
		{slope, bx(0, 0, 0, 20, 1, 20), bx(0, 0, 0, 8, 1, 4), api.OK}, {slope, bx(0, 0, 0, 4, 1, 3), bx(0, 0, 0, 4, 1, 3), api.OK}, {slope, bx(10, 0, 0, 11, 1, 1), api.Box{}, api.ErrNone}, {slope, bx(7, -5, 0, 20, 5, 20), bx(7, -5, 0, 8, 5, 1), api.OK},
		{slope, bx(8, 0, 0, 20, 1, 20), api.Box{}, api.ErrNone}, {half(-1, 0, -2, -10), bx(0, 0, 0, 5, 1, 5), bx(2, 0, 3, 5, 1, 5), api.OK}, {half(-1, 0, -2, -10), bx(0, 0, 0, 4, 1, 4), api.Box{}, api.ErrNone}, {half(-1, 0, -2, -9), bx(0, 0, 0, 4, 1, 4), bx(3, 0, 3, 4, 1, 4), api.OK},
		// The plane cuts the box, but no whole cell lies in the half-space.
		{half(1, 1, 1, 2), unit, api.Box{}, api.ErrNone}, {half(1, 1, 1, 3), unit, unit, api.OK}, {half(1, 1, 1, 2), bx(0, 0, 0, 9, 9, 9), api.Box{}, api.ErrNone}, {half(1, 1, 1, 3), bx(0, 0, 0, 9, 9, 9), unit, api.OK},
		{half(1, 1, 1, 4), bx(0, 0, 0, 9, 9, 9), bx(0, 0, 0, 2, 2, 2), api.OK}, {half(-most, 0, 0, -most), bx(0, 0, 0, 9, 9, 9), bx(1, 0, 0, 9, 9, 9), api.OK}, {half(-most, 0, 0, -most-1), bx(0, 0, 0, 9, 9, 9), bx(2, 0, 0, 9, 9, 9), api.OK},
		{half(most, most, most, topD), whole, whole, api.OK}, {half(most, most, most, -topD), whole, api.Box{}, api.ErrNone}, {half(most, most, most, 3e9), whole, whole, api.OK}, {half(most, most, most, 3e9-1), whole, whole, api.OK},
		{half(most, most, most, 3000-3e9), whole, cell(vec(-top, -top, -top)), api.OK}, {half(most, most, most, 2999-3e9), whole, api.Box{}, api.ErrNone}, {half(most, most, most, 3999-3e9), whole, cell(vec(-top, -top, -top)), api.OK},
		{half(most, most, most, 4000-3e9), whole, bx(-top, -top, -top, 2-top, 2-top, 2-top), api.OK}, {half(-most, -most, -most, 3000-3e9), whole, cell(vec(top-1, top-1, top-1)), api.OK}, {half(-most, -most, -most, 2999-3e9), whole, api.Box{}, api.ErrNone},
		{half(-most, 0, most, 2000-2e9), whole, bx(top-1, -top, -top, top, top, 1-top), api.OK}, {half(0, 1, 0, 0), whole, bx(-top, -top, -top, top, 0, top), api.OK}, {half(0, -1, 0, 0), whole, bx(-top, 0, -top, top, top, top), api.OK},
		{half(0, 0, 2, 1), whole, bx(-top, -top, -top, top, top, 0), api.OK}, {half(0, 0, 2, -1), whole, bx(-top, -top, -top, top, top, -1), api.OK}, {half(0, 0, 2, 1-2*top), whole, api.Box{}, api.ErrNone}, {half(0, 0, 2, 2-2*top), whole, bx(-top, -top, -top, top, top, 1-top), api.OK},
	} {
		wantHull(t, c.h, c.b, c.want, c.e)
	}
}

func TestHullAgainstCells(t *testing.T) {
	for _, h := range smallHalves(2, 3) {
		for _, b := range smallBoxes(-1, 1) {
			want, e := slowHull(h, b)
			wantHull(t, h, b, want, e)
			if isInside(h, b) {
				wantHull(t, h, b, b, api.OK)
			}
		}
	}
	random := rand.New(rand.NewSource(75))
	for range 4000 {
		n := func(size int) int { return random.Intn(2*size+1) - size }
		x, y, z := n(9), n(9), n(9)
		b := bx(x, y, z, x+1+random.Intn(5), y+1+random.Intn(5), z+1+random.Intn(5))
		h := half(n(9), n(9), n(9), int64(n(60)))
		if plane.Check(h) == api.OK {
			want, e := slowHull(h, b)
			wantHull(t, h, b, want, e)
		}
	}
}

// hasCell tells whether a cell of a box lies in a half-space: if one does, then one at a corner.
func hasCell(h api.Half, b api.Box) bool {
	for _, p := range corners(bx(b.Min.X, b.Min.Y, b.Min.Z, b.Max.X-1, b.Max.Y-1, b.Max.Z-1)) {
		if isInside(h, cell(p)) {
			return true
		}
	}
	return false
}

// outermost has the cells of a box that lie farthest in a direction.
func outermost(b api.Box, direction int) api.Box {
	size := box.Size(b)
	far := moved(b, direction, []int{size.X, size.Y, size.Z}[direction/2]-1)
	return bx(max(b.Min.X, far.Min.X), max(b.Min.Y, far.Min.Y), max(b.Min.Z, far.Min.Z), min(b.Max.X, far.Max.X), min(b.Max.Y, far.Max.Y), min(b.Max.Z, far.Max.Z))
}

// TestHullOfLargeBoxes examines the outermost cells of the hull, and those that follow in the box.
func TestHullOfLargeBoxes(t *testing.T) {
	random := rand.New(rand.NewSource(76))
	seen := map[api.Errno]int{}
	for range 20000 {
		h, b := far(random)
		hull, e := plane.Hull(h, b)
		seen[e]++
		if hasCell(h, b) != (e == api.OK) || e == api.OK && !box.Inside(hull, b) || e != api.OK && (e != api.ErrNone || hull != api.Box{}) {
			t.Fatalf("Hull of %v and %v: %v, %d", h, b, hull, e)
		}
		if e != api.OK {
			continue
		}
		for direction := range 6 {
			last := outermost(hull, direction)
			next := moved(last, direction, 1)
			if !hasCell(h, last) || box.Inside(next, b) && hasCell(h, widened(next, b, direction)) {
				t.Fatalf("Hull of %v and %v: %v, which ends wrongly in the direction %d", h, b, hull, direction)
			}
		}
	}
	if seen[api.OK] < 1000 || seen[api.ErrNone] < 1000 {
		t.Errorf("numbers of results: %v", seen)
	}
}

// widened has the range of one box along the axis of a direction, and those of another one along the other axes.
func widened(along, across api.Box, direction int) api.Box {
	b := across
	switch direction / 2 {
	case api.AxisX:
		b.Min.X, b.Max.X = along.Min.X, along.Max.X
	case api.AxisY:
		b.Min.Y, b.Max.Y = along.Min.Y, along.Max.Y
	case api.AxisZ:
		b.Min.Z, b.Max.Z = along.Min.Z, along.Max.Z
	}
	return b
}

func TestDepth(t *testing.T) {
	first := bx(0, 0, 0, 4, 1, 3)
	for _, far := range []int{0, 1, 17, top} {
		wantDepth(t, slope, first, api.PlusX, far, 0)
		wantDepth(t, slope, first, api.MinusX, far, far)
		wantDepth(t, slope, first, api.PlusY, far, far)
		wantDepth(t, slope, first, api.MinusY, far, far)
		wantDepth(t, slope, first, api.PlusZ, far, 0)
		wantDepth(t, slope, first, api.MinusZ, far, far)
		wantDepth(t, half(1, 0, 2, 17), first, api.PlusX, far, min(far, 7))
		wantDepth(t, half(1, 0, 2, 17), first, api.PlusZ, far, min(far, 3))
		wantDepth(t, half(1, 0, -2, 4), first, api.MinusZ, far, 0)
		wantDepth(t, half(1, 0, -2, 9), first, api.MinusZ, far, min(far, 2))
		// The box leaves the range.
		wantDepth(t, half(1, 1, 1, topD), whole, api.PlusX, far, far)
		wantDepth(t, half(-1, 0, 0, top), whole, api.PlusX, far, far)
		wantDepth(t, half(-1, 0, 0, top), whole, api.MinusX, far, 0)
		wantDepth(t, half(-1, 0, 0, top+9), whole, api.MinusX, far, min(far, 9))
		wantDepth(t, half(most, most, most, topD), whole, api.PlusZ, far, far)
		wantDepth(t, half(0, most, 0, topD), whole, api.PlusY, far, far)
		wantDepth(t, half(most, most, most, topD-1), whole, api.PlusY, far, min(far, top-1))
		wantDepth(t, half(most, -most, most, topD), whole, api.MinusY, far, far)
		wantDepth(t, half(most, -most, most, topD-most), whole, api.MinusY, far, min(far, top-1))
		wantDepth(t, half(most, 0, 0, 1e9), whole, api.PlusX, far, 0)
		wantDepth(t, half(most, 0, 0, 1e9+999), whole, api.PlusX, far, 0)
		wantDepth(t, half(most, 0, 0, 1e9+1000), whole, api.PlusX, far, min(far, 1))
	}
}

func TestDepthAgainstSteps(t *testing.T) {
	for _, h := range smallHalves(2, 5) {
		for _, b := range smallBoxes(-1, 1) {
			if !isInside(h, b) {
				continue
			}
			for direction := range 6 {
				for _, far := range []int{0, 1, 4} {
					want := 0
					for step := range far + 1 {
						if isInside(h, moved(b, direction, step)) {
							want = step
						}
					}
					wantDepth(t, h, b, direction, far, want)
				}
			}
		}
	}
}

func TestDepthOfLargeBoxes(t *testing.T) {
	random := rand.New(rand.NewSource(77))
	stops := 0
	for range 20000 {
		h, b := far(random)
		far := random.Intn(top + 1)
		if !isInside(h, b) {
			_, greatest := slowExtremes(h, b)
			h.D = min(h.D+greatest+random.Int63n(int64(far)*most+1), topD)
		}
		for direction := range 6 {
			n, e := plane.Depth(h, b, direction, far)
			if !isInside(h, b) {
				if n != 0 || e != api.ErrState {
					t.Errorf("Depth of %v and %v: %d, %d", h, b, n, e)
				}
				continue
			}
			if e != api.OK || n < 0 || n > far || !isInside(h, moved(b, direction, n)) || n < far && isInside(h, moved(b, direction, n+1)) {
				t.Errorf("Depth of %v and %v in the direction %d to %d: %d, %d", h, b, direction, far, n, e)
			}
			if n > 0 && n < far {
				stops++
			}
		}
	}
	if stops < 1000 {
		t.Errorf("%d stops on the way", stops)
	}
}
