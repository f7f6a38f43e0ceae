package polygon_test

import (
	"math"
	"math/rand"
	"slices"
	"testing"

	"gangsaw/api"
	"gangsaw/polygon"
)

const top = api.MaxCoord

func at(x, y int) api.Point {
	return api.Point{X: x, Y: y}
}

// poly returns the polygon with the corners x0, y0, x1, y1 ..
func poly(numbers ...int) api.Polygon {
	var p api.Polygon
	for i := 0; i < len(numbers); i += 2 {
		p = append(p, at(numbers[i], numbers[i+1]))
	}
	return p
}

// bowl returns n corners on a parabola, counterclockwise from the least one on.
func bowl(n int) api.Polygon {
	var p api.Polygon
	for x := range n {
		p = append(p, at(x, x*x))
	}
	return p
}

// corridor returns a random simple polygon with a lower wall of n corners and an upper one of m.
func corridor(random *rand.Rand, n, m int) api.Polygon {
	wall := func(n, low, high int) api.Polygon {
		var w api.Polygon
		for i := range n {
			w = append(w, at(40*i/(n-1), low+random.Intn(high-low)))
		}
		return w
	}
	p := slices.Concat(wall(n, -9, 0), polygon.Reverse(wall(m, 1, 10)))
	for i := range p {
		p[i] = at(p[i].X+2*p[i].Y, p[i].Y-p[i].X)
	}
	return p
}

// someSimple are simple polygons of all numbers of corners.
func someSimple() []api.Polygon {
	random := rand.New(rand.NewSource(7))
	list := []api.Polygon{
		poly(0, 0, 10, 0, 10, 10, 0, 10), poly(10, 10, 10, 0, 0, 0, 0, 10), poly(0, 0, 4, 0, 2, 3), poly(0, 0, 2, 3, 4, 0),
		poly(0, 0, 2, 0, 4, 0, 4, 4, 2, 4, 0, 4), poly(0, 0, 9, 0, 9, 9, 6, 9, 6, 3, 3, 3, 3, 9, 0, 9), poly(-3, 0, 0, -5, 8, 0, 0, 1), bowl(3), bowl(8), bowl(api.MaxCorners),
	}
	for n := 2; n <= api.MaxCorners/2; n++ {
		list = append(list, corridor(random, n, n), corridor(random, 2, n))
	}
	return list
}

// calls has the functions of one polygon; each tells its error, and whether its other results are zero values.
func calls() map[string]func(api.Polygon) (api.Errno, bool) {
	return map[string]func(api.Polygon) (api.Errno, bool){
		"Check": func(p api.Polygon) (api.Errno, bool) { return polygon.Check(p), true },
		"Area2": func(p api.Polygon) (api.Errno, bool) {
			n, e := polygon.Area2(p)
			return e, n == 0
		},
		"Simple": func(p api.Polygon) (api.Errno, bool) {
			is, e := polygon.Simple(p)
			return e, !is
		},
		"Convex": func(p api.Polygon) (api.Errno, bool) {
			is, e := polygon.Convex(p)
			return e, !is
		},
		"Side": func(p api.Polygon) (api.Errno, bool) {
			n, e := polygon.Side(p, at(3, 4))
			return e, n == 0
		},
		"Canonical": func(p api.Polygon) (api.Errno, bool) {
			c, e := polygon.Canonical(p)
			return e, len(c) == 0
		},
		"Bounds": func(p api.Polygon) (api.Errno, bool) {
			low, high, e := polygon.Bounds(p)
			return e, low == at(0, 0) && high == at(0, 0)
		},
	}
}

func wantErrors(t *testing.T, p api.Polygon, want api.Errno) {
	t.Helper()
	for name, call := range calls() {
		if e, zero := call(p); e != want || !zero {
			t.Errorf("%s of %v: %d (other results zero: %v), not %d", name, p, e, zero, want)
		}
	}
}

func TestSignatures(t *testing.T) {
	var (
		_ func(a, b, c api.Point) int                                = polygon.Orient
		_ func(api.Polygon) api.Errno                                = polygon.Check
		_ func(api.Polygon) (int64, api.Errno)                       = polygon.Area2
		_ func(api.Polygon) (bool, api.Errno)                        = polygon.Simple
		_ func(api.Polygon) (bool, api.Errno)                        = polygon.Convex
		_ func(api.Polygon, api.Point) (int, api.Errno)              = polygon.Side
		_ func([]api.Point) (api.Polygon, api.Errno)                 = polygon.Hull
		_ func(api.Polygon) api.Polygon                              = polygon.Reverse
		_ func(api.Polygon) (api.Polygon, api.Errno)                 = polygon.Canonical
		_ func(api.Polygon) (least, greatest api.Point, e api.Errno) = polygon.Bounds
	)
	if polygon.MaxPoints != 1000 {
		t.Errorf("MaxPoints is %d", polygon.MaxPoints)
	}
}

func TestNumbersOfCorners(t *testing.T) {
	far := at(math.MinInt, math.MaxInt)
	for _, p := range []api.Polygon{nil, {}, {at(0, 0)}, poly(0, 0, 1, 0), poly(1, 1, 1, 1), {far}, {far, far}} {
		wantErrors(t, p, api.ErrInvalid)
	}
	long := bowl(api.MaxCorners + 1)
	wantErrors(t, long, api.ErrTooMany)
	long[1] = long[0]
	wantErrors(t, long, api.ErrTooMany)
	long[2] = far
	wantErrors(t, long, api.ErrTooMany)
	wantErrors(t, make(api.Polygon, 5000), api.ErrTooMany)
	for _, n := range []int{3, 4, api.MaxCorners - 1, api.MaxCorners} {
		for name, call := range calls() {
			if e, _ := call(bowl(n)); e != api.OK {
				t.Errorf("%s of %d corners: %d", name, n, e)
			}
		}
	}
}

func TestCornersOutOfRange(t *testing.T) {
	for _, n := range []int{top + 1, -top - 1, math.MaxInt, math.MinInt, math.MaxInt - top, math.MinInt + top, 1 << 32, -1 << 40} {
		for _, far := range []api.Point{at(n, 0), at(0, n), at(n, n), at(n, -n)} {
			for i := range 4 {
				p := poly(0, 0, 10, 0, 10, 10, 0, 10)
				p[i] = far
				wantErrors(t, p, api.ErrRange)
				p[(i+2)%4] = p[(i+1)%4]
				wantErrors(t, p, api.ErrRange)
				p[(i+1)%4] = far
				wantErrors(t, p, api.ErrRange)
			}
			if n := polygon.Orient(at(0, 0), far, at(1, 1)); n < -1 || n > 1 {
				t.Errorf("Orient with %v: %d", far, n)
			}
		}
	}
}

func TestEqualNeighbours(t *testing.T) {
	for _, p := range []api.Polygon{
		poly(0, 0, 0, 0, 5, 5), poly(0, 0, 5, 5, 5, 5), poly(0, 0, 5, 5, 0, 0), poly(1, 1, 1, 1, 1, 1), poly(0, 0, 10, 0, 10, 10, 0, 10, 0, 0),
		poly(0, 0, 10, 0, 10, 0, 10, 10, 0, 10), poly(0, 0, 10, 10, 10, 0, 0, 10, 0, 10), poly(top, top, -top, -top, -top, -top),
	} {
		wantErrors(t, p, api.ErrDuplicate)
		wantErrors(t, polygon.Reverse(p), api.ErrDuplicate)
	}
	full := bowl(api.MaxCorners)
	full[api.MaxCorners-1] = full[0]
	wantErrors(t, full, api.ErrDuplicate)
}

func TestErrorsOfSide(t *testing.T) {
	square, tie, double := poly(0, 0, 10, 0, 10, 10, 0, 10), poly(0, 0, 10, 10, 10, 0, 0, 10), poly(0, 0, 0, 0, 5, 5)
	for _, far := range []api.Point{at(top+1, 0), at(0, -top-1), at(math.MinInt, 5), at(5, math.MaxInt)} {
		for _, c := range []struct {
			p    api.Polygon
			want api.Errno
		}{{square, api.ErrRange}, {tie, api.ErrRange}, {double, api.ErrRange}, {double[:2], api.ErrInvalid}, {nil, api.ErrInvalid}, {bowl(65), api.ErrTooMany}} {
			if n, e := polygon.Side(c.p, far); n != 0 || e != c.want {
				t.Errorf("Side of %v and %v: %d, %d", c.p, far, n, e)
			}
		}
	}
	for _, q := range []api.Point{at(0, 0), at(5, 5), at(99, 99), at(2, 5)} {
		if n, e := polygon.Side(tie, q); n != 0 || e != api.ErrConflict {
			t.Errorf("Side of the bow tie and %v: %d, %d", q, n, e)
		}
	}
}

func TestOrient(t *testing.T) {
	for _, c := range []struct {
		a, b, c api.Point
		want    int
	}{
		{at(0, 0), at(10, 0), at(5, 1), 1}, {at(0, 0), at(10, 0), at(5, -1), -1}, {at(0, 0), at(10, 0), at(-7, 0), 0}, {at(1, 1), at(3, 3), at(7, 7), 0},
		{at(2, 2), at(2, 2), at(5, 9), 0}, {at(0, 0), at(0, 10), at(1, 5), -1}, {at(0, 0), at(0, 10), at(-1, 5), 1},
		{at(-top, -top), at(top, -top), at(-top, top), 1}, {at(-top, top), at(top, top-1), at(top-1, top-1), -1}, {at(-top, top), at(top, top-1), at(0, top), 1},
		{at(-top, -top), at(top, top), at(top-1, top-1), 0}, {at(-top, -top), at(top, top), at(top-1, top), 1}, {at(-top, -top), at(top, top), at(top, top-1), -1},
	} {
		if n := polygon.Orient(c.a, c.b, c.c); n != c.want {
			t.Errorf("Orient of %v: %d", c, n)
		}
		if n := polygon.Orient(c.b, c.a, c.c); n != -c.want {
			t.Errorf("Orient of %v, from b to a: %d", c, n)
		}
	}
}

func TestArea(t *testing.T) {
	for _, c := range []struct {
		p    api.Polygon
		want int64
	}{
		{poly(0, 0, 10, 0, 10, 10, 0, 10), 200}, {poly(0, 0, 10, 10, 10, 0, 0, 10), 0}, {poly(0, 0, 3, 0, 0, 1), 3}, {poly(5, 5, 6, 6, 7, 7), 0},
		{poly(-top, -top, top, -top, top, top, -top, top), 8e12}, {poly(-top, -top, -top, top, top, top, top, -top), -8e12},
		{poly(top, top, top-1, top, top, top-1), 1}, {poly(0, 0, 4, 0, 4, 4, 0, 4, 0, 0, 4, 0, 4, 4, 0, 4), 64},
	} {
		if n, e := polygon.Area2(c.p); n != c.want || e != api.OK {
			t.Errorf("Area2 of %v: %d, %d, not %d", c.p, n, e, c.want)
		}
	}
	// Many windings around the greatest square.
	var wound api.Polygon
	for range api.MaxCorners / 4 {
		wound = append(wound, poly(-top, -top, top, -top, top, top, -top, top)...)
	}
	if n, e := polygon.Area2(wound); n != 128e12 || e != api.OK {
		t.Errorf("Area2 of 16 windings: %d, %d", n, e)
	}
}

func TestAreaIsThatOfTriangles(t *testing.T) {
	for _, p := range someSimple() {
		sum := int64(0)
		for i := 2; i < len(p); i++ {
			sum += int64((p[i-1].X-p[0].X)*(p[i].Y-p[0].Y) - (p[i-1].Y-p[0].Y)*(p[i].X-p[0].X))
		}
		if n, e := polygon.Area2(p); n != sum || e != api.OK {
			t.Errorf("Area2 of %v: %d, %d, not %d", p, n, e, sum)
		}
		if n, e := polygon.Area2(polygon.Reverse(p)); n != -sum || e != api.OK {
			t.Errorf("Area2 of %v reversed: %d, %d, not %d", p, n, e, -sum)
		}
	}
}

func TestReverse(t *testing.T) {
	for _, c := range [][2]api.Polygon{
		{nil, nil}, {{}, {}}, {poly(1, 2), poly(1, 2)}, {poly(1, 2, 3, 4), poly(3, 4, 1, 2)}, {poly(0, 0, 4, 0, 4, 4), poly(4, 4, 4, 0, 0, 0)},
		{poly(7, 7, 7, 7, 8, 8), poly(8, 8, 7, 7, 7, 7)}, {poly(math.MinInt, 0, 0, math.MaxInt), poly(0, math.MaxInt, math.MinInt, 0)},
	} {
		if r := polygon.Reverse(c[0]); !slices.Equal(r, c[1]) {
			t.Errorf("Reverse of %v: %v", c[0], r)
		}
	}
	long := bowl(5000)
	r := polygon.Reverse(long)
	if len(r) != len(long) || r[0] != long[4999] || r[4999] != long[0] || r[1] != long[4998] {
		t.Errorf("Reverse of 5000 corners: %v", r)
	}
}

func TestBounds(t *testing.T) {
	for _, c := range []struct {
		p         api.Polygon
		low, high api.Point
	}{
		{poly(0, 0, 10, 0, 10, 10, 0, 10), at(0, 0), at(10, 10)}, {poly(3, 9, 1, 4, 2, 7), at(1, 4), at(3, 9)}, {poly(0, 0, 10, 10, 10, 0, 0, 10), at(0, 0), at(10, 10)},
		{poly(-5, 2, -9, 3, -7, 8), at(-9, 2), at(-5, 8)}, {poly(5, -2, 9, -3, 7, -8), at(5, -8), at(9, -2)}, {poly(-top, top, 0, 0, top, -top), at(-top, -top), at(top, top)},
		{poly(4, 4, 6, 6, 5, 5), at(4, 4), at(6, 6)}, {bowl(64), at(0, 0), at(63, 3969)},
	} {
		for range c.p {
			if low, high, e := polygon.Bounds(c.p); low != c.low || high != c.high || e != api.OK {
				t.Errorf("Bounds of %v: %v, %v, %d", c.p, low, high, e)
			}
			c.p = slices.Concat(c.p[1:], c.p[:1])
		}
	}
}

func TestCanonical(t *testing.T) {
	for _, c := range [][2]api.Polygon{
		{poly(10, 10, 10, 0, 0, 0, 0, 10), poly(0, 0, 10, 0, 10, 10, 0, 10)},
		{poly(0, 9, 5, 9, 5, 0, 0, 0), poly(0, 0, 5, 0, 5, 9, 0, 9)},
		{poly(4, 0, 4, 4, 2, 4, 0, 4, 0, 2, 0, 0, 2, 0), poly(0, 0, 2, 0, 4, 0, 4, 4, 2, 4, 0, 4, 0, 2)},
		{poly(top, top, -top, top, -top, -top), poly(-top, -top, top, top, -top, top)},
		{poly(5, 1, 5, 0, 4, 8), poly(4, 8, 5, 0, 5, 1)},
	} {
		if p, e := polygon.Canonical(c[0]); !slices.Equal(p, c[1]) || e != api.OK {
			t.Errorf("Canonical of %v: %v, %d", c[0], p, e)
		}
	}
	for _, p := range []api.Polygon{poly(0, 0, 10, 10, 10, 0, 0, 10), poly(0, 0, 1, 1, 2, 2), poly(0, 0, 4, 0, 4, 4, 4, 0), poly(0, 0, 9, 0, 9, 9, 5, 0)} {
		if c, e := polygon.Canonical(p); len(c) > 0 || e != api.ErrConflict {
			t.Errorf("Canonical of %v: %v, %d", p, c, e)
		}
	}
}

func TestCanonicalOfAllBeginnings(t *testing.T) {
	for _, p := range someSimple() {
		want, e := polygon.Canonical(p)
		if e != api.OK {
			t.Fatalf("Canonical of %v: %d", p, e)
		}
		least := slices.MinFunc(p, func(a, b api.Point) int { return (a.X-b.X)*1000000 + a.Y - b.Y })
		if area, e := polygon.Area2(want); want[0] != least || area <= 0 || e != api.OK || len(want) != len(p) {
			t.Errorf("Canonical of %v: %v", p, want)
		}
		for _, turned := range []api.Polygon{slices.Clone(p), polygon.Reverse(p)} {
			same := false
			for range p {
				if c, e := polygon.Canonical(turned); !slices.Equal(c, want) || e != api.OK {
					t.Errorf("Canonical of %v: %v, %d, not %v", turned, c, e, want)
				}
				same = same || slices.Equal(turned, want)
				turned = slices.Concat(turned[1:], turned[:1])
			}
			area, _ := polygon.Area2(turned)
			if same != (area > 0) {
				t.Errorf("Canonical of %v has its corners turned: %v", turned, same)
			}
		}
	}
}

func TestMemory(t *testing.T) {
	for _, p := range []api.Polygon{poly(0, 0, 10, 0, 10, 10, 0, 10), poly(10, 10, 10, 0, 0, 0, 0, 10), poly(5, 0, 9, 9, 0, 9)} {
		before := slices.Clone(p)
		canonical, _ := polygon.Canonical(p)
		hull, _ := polygon.Hull(p)
		reversed := polygon.Reverse(p)
		for name, call := range calls() {
			call(p)
			if !slices.Equal(p, before) {
				t.Fatalf("%s changes %v to %v", name, before, p)
			}
		}
		for _, result := range []api.Polygon{canonical, hull, reversed} {
			copied := slices.Clone(result)
			for i := range p {
				p[i] = at(77, 77)
			}
			if !slices.Equal(result, copied) {
				t.Errorf("%v changes with the argument", copied)
			}
			copy(p, before)
			for i := range result {
				result[i] = at(88, 88)
			}
			_ = append(result[:0], poly(1, 1, 2, 2, 3, 3, 4, 4, 5, 5)...)
			if !slices.Equal(p, before) {
				t.Errorf("%v changes with a result", before)
			}
		}
	}
}
