package prism_test

import (
	"math"
	"math/rand"
	"slices"
	"testing"

	"gangsaw/api"
	"gangsaw/box"
	"gangsaw/polygon"
	"gangsaw/prism"
)

const top = api.MaxCoord

func at(x, y int) api.Point {
	return api.Point{X: x, Y: y}
}

func vec(x, y, z int) api.Vec {
	return api.Vec{X: x, Y: y, Z: z}
}

// poly returns the polygon with the corners x0, y0, x1, y1 ..
func poly(numbers ...int) api.Polygon {
	var p api.Polygon
	for i := 0; i < len(numbers); i += 2 {
		p = append(p, at(numbers[i], numbers[i+1]))
	}
	return p
}

// bx returns the box from the first three numbers to the last three.
func bx(x, y, z, toX, toY, toZ int) api.Box {
	return api.Box{Min: vec(x, y, z), Max: vec(toX, toY, toZ)}
}

// bowl returns n corners on a parabola, counterclockwise from the least one on.
func bowl(n int) api.Polygon {
	var p api.Polygon
	for x := range n {
		p = append(p, at(x, x*x))
	}
	return p
}

// star visits the corners of a polygon in steps of so many: so many times around it.
func star(p api.Polygon, step int) api.Polygon {
	var s api.Polygon
	for i := range p {
		s = append(s, p[i*step%len(p)])
	}
	return s
}

// turned begins a base with another corner.
func turned(p api.Polygon, by int) api.Polygon {
	by %= len(p)
	return slices.Concat(p[by:], p[:by])
}

func same(p, q api.Prism) bool {
	return slices.Equal(p.Base, q.Base) && p.Lo == q.Lo && p.Hi == q.Hi
}

var (
	whole   = bx(-top, -top, -top, top, top, top)
	unit    = bx(0, 0, 0, 1, 1, 1)
	example = api.Prism{Base: poly(0, 0, 10, 0, 0, 10), Hi: 5}
	sliver  = api.Prism{Base: poly(-top, -top, top, top-1, top-1, top-1), Lo: -top, Hi: top}
)

// goodPrisms are valid.
func goodPrisms() []api.Prism {
	return []api.Prism{
		example, sliver, {Base: poly(-top, -top, top, -top, top, top, -top, top), Lo: -top, Hi: top}, {Base: bowl(3), Lo: -1, Hi: 0}, {Base: bowl(api.MaxCorners), Lo: top - 1, Hi: top},
		{Base: turned(bowl(api.MaxCorners), 40), Lo: -top, Hi: 1 - top}, {Base: poly(1, 0, 2, 1, 1, 2, 0, 1), Lo: 3, Hi: 8}, {Base: poly(3, 1, 5, 0, 7, 1, 8, 4, 6, 6, 2, 4), Lo: -7, Hi: 9},
	}
}

// notConvex are closed ways that are not convex and counterclockwise.
func notConvex() []api.Polygon {
	pentagram := poly(0, 10, -6, -8, 10, 3, -10, 3, 6, -8)
	list := []api.Polygon{
		// To the right, and both ways.
		poly(0, 0, 0, 10, 10, 0), poly(0, 0, 0, 9, 9, 9, 9, 0), polygon.Reverse(bowl(api.MaxCorners)), poly(0, 0, 10, 0, 3, 3, 0, 10), poly(0, 0, 10, 10, 10, 0, 0, 10),
		// A corner without a turn, on the way or back.
		poly(0, 0, 5, 0, 10, 0, 0, 10), poly(0, 0, 10, 0, 5, 5, 0, 10), poly(0, 0, 10, 0, 0, 10, 0, 5), poly(0, 0, 10, 0, 5, 0), poly(0, 0, 5, 0, 10, 0), poly(0, 0, 10, 0, 0, 0, 0, 10),
		poly(-top, -top, 0, 0, top, top, -top, top), poly(0, 0, 10, 0, 10, 10, 10, 12, 10, 10, 0, 10),
		// Equal neighbours.
		poly(0, 0, 0, 0, 10, 0, 0, 10), poly(0, 0, 10, 0, 0, 10, 0, 10), poly(0, 0, 10, 0, 0, 10, 0, 0), poly(4, 4, 4, 4, 4, 4), poly(0, 0, 1, 0, 0, 0), make(api.Polygon, api.MaxCorners),
		// More than once around, to the left at each corner.
		poly(0, 0, 10, 0, 0, 10, 0, 0, 10, 0, 0, 10), pentagram, turned(pentagram, 3), polygon.Reverse(pentagram), slices.Concat(bowl(32), bowl(32)), slices.Concat(bowl(21), bowl(21), bowl(21)),
		poly(0, 0, 9, 0, 9, 9, 0, 9, 1, 1, 8, 1, 8, 8, 1, 8),
	}
	for _, step := range []int{2, 3, 31} {
		list = append(list, star(bowl(63), step))
	}
	return append(list, star(bowl(64), 3), star(bowl(64), 31), star(bowl(64), 32), star(bowl(64), 63))
}

type badPrism struct {
	p    api.Prism
	want api.Errno
}

// badPrisms have the errors of Check, some of them several.
func badPrisms() []badPrism {
	far := at(math.MinInt, math.MaxInt)
	long := bowl(api.MaxCorners + 1)
	list := []badPrism{
		{api.Prism{Base: long, Hi: 5}, api.ErrTooMany}, {api.Prism{Base: append(slices.Clone(long), far), Lo: top + 1}, api.ErrTooMany}, {api.Prism{Base: make(api.Polygon, 5000), Lo: 1}, api.ErrTooMany},
		{api.Prism{}, api.ErrInvalid}, {api.Prism{Hi: 5}, api.ErrInvalid}, {api.Prism{Base: api.Polygon{}, Lo: top + 1, Hi: math.MinInt}, api.ErrInvalid},
		{api.Prism{Base: poly(0, 0, 1, 0), Hi: 5}, api.ErrInvalid}, {api.Prism{Base: api.Polygon{far, far}, Lo: math.MinInt}, api.ErrInvalid}, {api.Prism{Base: poly(0, 0), Lo: -top - 1, Hi: 1}, api.ErrInvalid},
	}
	for _, n := range []int{top + 1, -top - 1, 1 << 32, math.MaxInt, math.MinInt} {
		for i := range example.Base {
			base, other := slices.Clone(example.Base), polygon.Reverse(example.Base)
			base[i].X, other[i].Y = n, n
			list = append(list, badPrism{api.Prism{Base: base, Hi: 5}, api.ErrRange}, badPrism{api.Prism{Base: other, Lo: 5, Hi: 5}, api.ErrRange})
		}
		list = append(list,
			badPrism{api.Prism{Base: example.Base, Lo: n, Hi: 5}, api.ErrRange}, badPrism{api.Prism{Base: example.Base, Lo: 5, Hi: n}, api.ErrRange}, badPrism{api.Prism{Base: poly(1, 1, 1, 1, 2, 2), Lo: n, Hi: n}, api.ErrRange},
			badPrism{api.Prism{Base: poly(0, 0, 0, 10, 10, 0), Lo: n, Hi: 5}, api.ErrRange}, badPrism{api.Prism{Base: poly(0, 0, 0, 0, n, 0), Hi: 5}, api.ErrRange})
	}
	for _, z := range [][2]int{{0, 0}, {5, 4}, {top, top}, {-top, -top}, {top, -top}} {
		list = append(list, badPrism{api.Prism{Base: example.Base, Lo: z[0], Hi: z[1]}, api.ErrInvalid}, badPrism{api.Prism{Base: poly(0, 0, 0, 0, 1, 1), Lo: z[0], Hi: z[1]}, api.ErrInvalid})
	}
	for _, base := range notConvex() {
		list = append(list, badPrism{api.Prism{Base: base, Lo: -top, Hi: top}, api.ErrInvalid})
	}
	return list
}

// badBoxes are not valid.
var badBoxes = []api.Box{
	{}, bx(0, 0, 0, 1, 1, 0), bx(0, 0, 0, 0, 1, 1), bx(0, 3, 0, 1, 2, 1), bx(top+1, 0, 0, top+2, 1, 1), bx(0, 0, 0, 1, top+1, 1), bx(0, 0, -top-1, 1, 1, 1),
	bx(math.MinInt, math.MinInt, math.MinInt, math.MaxInt, math.MaxInt, math.MaxInt), bx(math.MaxInt, 0, 0, math.MinInt, 1, 1),
}

// calls has the functions of a prism; each tells its error, and whether its other results are zero values.
func calls(b api.Box, by api.Vec, lo, hi int) map[string]func(api.Prism) (api.Errno, bool) {
	zero := func(p api.Prism) bool { return len(p.Base) == 0 && p.Lo == 0 && p.Hi == 0 }
	return map[string]func(api.Prism) (api.Errno, bool){
		"Check": func(p api.Prism) (api.Errno, bool) { return prism.Check(p), true },
		"Hull": func(p api.Prism) (api.Errno, bool) {
			h, e := prism.Hull(p)
			return e, h == api.Box{}
		},
		"Area2": func(p api.Prism) (api.Errno, bool) {
			n, e := prism.Area2(p)
			return e, n == 0
		},
		"Overlaps": func(p api.Prism) (api.Errno, bool) {
			is, e := prism.Overlaps(p, b)
			return e, !is
		},
		"Covers": func(p api.Prism) (api.Errno, bool) {
			is, e := prism.Covers(p, b)
			return e, !is
		},
		"Separator": func(p api.Prism) (api.Errno, bool) {
			i, e := prism.Separator(p, b)
			return e, i == 0
		},
		"Move": func(p api.Prism) (api.Errno, bool) {
			m, e := prism.Move(p, by)
			return e, zero(m)
		},
		"Slice": func(p api.Prism) (api.Errno, bool) {
			s, e := prism.Slice(p, lo, hi)
			return e, zero(s)
		},
	}
}

func TestSignatures(t *testing.T) {
	var (
		_ func(api.Prism) api.Errno                                    = prism.Check
		_ func(api.Prism) (api.Box, api.Errno)                         = prism.Hull
		_ func(api.Prism) (int64, api.Errno)                           = prism.Area2
		_ func(api.Prism, api.Box) (bool, api.Errno)                   = prism.Overlaps
		_ func(api.Prism, api.Box) (bool, api.Errno)                   = prism.Covers
		_ func(p, q api.Prism) (bool, api.Errno)                       = prism.Meets
		_ func(api.Prism, api.Box) (int, api.Errno)                    = prism.Separator
		_ func(api.Prism, api.Vec) (api.Prism, api.Errno)              = prism.Move
		_ func(api.Box) (api.Prism, api.Errno)                         = prism.Of
		_ func(p api.Prism, lo, hi int) (slice api.Prism, e api.Errno) = prism.Slice
	)
}

func TestErrorsOfPrisms(t *testing.T) {
	for _, bad := range badPrisms() {
		wantError := func(name string, call func(api.Prism) (api.Errno, bool)) {
			t.Helper()
			if e, zero := call(bad.p); e != bad.want || !zero {
				t.Errorf("%s of %v: %d (other results zero: %v), not %d", name, bad.p, e, zero, bad.want)
			}
		}
		for name, call := range calls(unit, vec(1, 2, 3), 0, 1) {
			wantError(name, call)
		}
		for name, call := range calls(badBoxes[0], vec(top+1, 0, math.MinInt), 1, 0) {
			wantError(name, call)
		}
		for _, other := range append(goodPrisms(), badPrisms()[0].p, badPrisms()[3].p, badPrisms()[9].p) {
			wantError("Meets", func(p api.Prism) (api.Errno, bool) {
				is, e := prism.Meets(p, other)
				return e, !is
			})
			if prism.Check(other) == api.OK {
				wantError("Meets, as the second one,", func(p api.Prism) (api.Errno, bool) {
					is, e := prism.Meets(other, p)
					return e, !is
				})
			}
		}
	}
}

func TestErrorsOfBoxes(t *testing.T) {
	for _, b := range badBoxes {
		for _, p := range goodPrisms() {
			if is, e := prism.Overlaps(p, b); is || e != api.ErrInvalid {
				t.Errorf("Overlaps of %v and %v: %v, %d", p, b, is, e)
			}
			if is, e := prism.Covers(p, b); is || e != api.ErrInvalid {
				t.Errorf("Covers of %v and %v: %v, %d", p, b, is, e)
			}
			if i, e := prism.Separator(p, b); i != 0 || e != api.ErrInvalid {
				t.Errorf("Separator of %v and %v: %d, %d", p, b, i, e)
			}
		}
		if p, e := prism.Of(b); !same(p, api.Prism{}) || e != api.ErrInvalid {
			t.Errorf("Of %v: %v, %d", b, p, e)
		}
	}
}

func TestCheck(t *testing.T) {
	for _, p := range goodPrisms() {
		for i := range p.Base {
			if e := prism.Check(api.Prism{Base: turned(p.Base, i), Lo: p.Lo, Hi: p.Hi}); e != api.OK {
				t.Errorf("Check of %v, turned by %d: %d", p, i, e)
			}
		}
	}
	for _, base := range notConvex() {
		for i := range base {
			if e := prism.Check(api.Prism{Base: turned(base, i), Hi: 1}); e != api.ErrInvalid {
				t.Errorf("Check of %v, turned by %d: %d", base, i, e)
			}
		}
	}
	for n := 3; n <= api.MaxCorners; n++ {
		for step := 1; step < n; step++ {
			want := api.ErrInvalid
			if step == 1 {
				want = api.OK
			}
			if e := prism.Check(api.Prism{Base: star(bowl(n), step), Hi: 1}); e != want {
				t.Errorf("Check of %d corners in steps of %d: %d", n, step, e)
			}
		}
	}
}

// allWays visits all closed ways of n corners on a grid of size x size points, also those with equal neighbours.
func allWays(n, size int, visit func(api.Polygon)) {
	p := make(api.Polygon, n)
	var choose func(i int)
	choose = func(i int) {
		if i == n {
			visit(p)
			return
		}
		for x := range size {
			for y := range size {
				p[i] = at(x-1, y-1)
				choose(i + 1)
			}
		}
	}
	choose(0)
}

func TestCheckAgainstPolygons(t *testing.T) {
	for _, c := range [][2]int{{3, 5}, {4, 4}, {5, 3}, {6, 3}} {
		good := 0
		allWays(c[0], c[1], func(base api.Polygon) {
			convex, e := polygon.Convex(base)
			want := api.ErrInvalid
			if convex && e == api.OK {
				want, good = api.OK, good+1
			}
			if e := prism.Check(api.Prism{Base: base, Hi: 1}); e != want {
				t.Errorf("Check of %v: %d", base, e)
			}
		})
		if good == 0 {
			t.Errorf("no convex polygons of %d corners", c[0])
		}
	}
}

func TestHullAndArea(t *testing.T) {
	for _, c := range []struct {
		p    api.Prism
		hull api.Box
		area int64
	}{
		{example, bx(0, 0, 0, 10, 10, 5), 100}, {sliver, bx(-top, -top, -top, top, top-1, top), 2*top - 1}, {api.Prism{Base: bowl(3), Lo: -1, Hi: 0}, bx(0, 0, -1, 2, 4, 0), 2},
		{api.Prism{Base: poly(-top, -top, top, -top, top, top, -top, top), Lo: -top, Hi: top}, whole, 8e12}, {api.Prism{Base: poly(1, 0, 2, 1, 1, 2, 0, 1), Lo: 3, Hi: 8}, bx(0, 0, 3, 2, 2, 8), 4},
		{api.Prism{Base: poly(-8, -7, -3, -9, -2, -5), Lo: -4, Hi: -3}, bx(-8, -9, -4, -2, -5, -3), 22}, {api.Prism{Base: poly(top-1, top-1, top, top-1, top-1, top), Lo: top - 1, Hi: top}, bx(top-1, top-1, top-1, top, top, top), 1},
	} {
		for i := range c.p.Base {
			p := api.Prism{Base: turned(c.p.Base, i), Lo: c.p.Lo, Hi: c.p.Hi}
			if h, e := prism.Hull(p); h != c.hull || e != api.OK {
				t.Errorf("Hull of %v: %v, %d", p, h, e)
			}
			if n, e := prism.Area2(p); n != c.area || e != api.OK {
				t.Errorf("Area2 of %v: %d, %d", p, n, e)
			}
		}
	}
	// The triangles from its first corner to its sides have the doubled areas 1 * 2, 2 * 3 .. 62 * 63.
	if n, e := prism.Area2(api.Prism{Base: bowl(64), Hi: 1}); n != 62*63*64/3 || e != api.OK {
		t.Errorf("Area2 of a bowl: %d, %d", n, e)
	}
}

func TestMove(t *testing.T) {
	for _, c := range []struct {
		by   api.Vec
		want api.Prism
		e    api.Errno
	}{
		{vec(0, 0, 0), example, api.OK}, {vec(3, -4, 5), api.Prism{Base: poly(3, -4, 13, -4, 3, 6), Lo: 5, Hi: 10}, api.OK},
		{vec(top-10, top-10, top-5), api.Prism{Base: poly(top-10, top-10, top, top-10, top-10, top), Lo: top - 5, Hi: top}, api.OK}, {vec(-top, -top, -top), api.Prism{Base: poly(-top, -top, 10-top, -top, -top, 10-top), Lo: -top, Hi: 5 - top}, api.OK},
		{vec(top-9, 0, 0), api.Prism{}, api.ErrRange}, {vec(0, top-9, 0), api.Prism{}, api.ErrRange}, {vec(0, 0, top-4), api.Prism{}, api.ErrRange}, {vec(-top-1, 0, 0), api.Prism{}, api.ErrRange}, {vec(0, -top-1, 0), api.Prism{}, api.ErrRange}, {vec(0, 0, -top-1), api.Prism{}, api.ErrRange},
		{vec(math.MaxInt, 0, 0), api.Prism{}, api.ErrRange}, {vec(0, math.MinInt, 0), api.Prism{}, api.ErrRange}, {vec(0, 0, math.MaxInt), api.Prism{}, api.ErrRange}, {vec(top, top, top), api.Prism{}, api.ErrRange},
	} {
		p, e := prism.Move(example, c.by)
		if !same(p, c.want) || e != c.e {
			t.Errorf("Move by %v: %v, %d", c.by, p, e)
		}
		if e != api.OK {
			continue
		}
		back, e := prism.Move(p, vec(-c.by.X, -c.by.Y, -c.by.Z))
		if !same(back, example) || e != api.OK {
			t.Errorf("Move by %v and back: %v, %d", c.by, back, e)
		}
	}
	// The result would be in range, the way is not.
	low := api.Prism{Base: poly(-top, -top, 1-top, -top, -top, 1-top), Lo: -top, Hi: 1 - top}
	for _, by := range []api.Vec{vec(top+1, 0, 0), vec(0, top+1, 0), vec(0, 0, top+1), vec(-1, 0, 0), vec(0, -1, 0), vec(0, 0, -1)} {
		if p, e := prism.Move(low, by); !same(p, api.Prism{}) || e != api.ErrRange {
			t.Errorf("Move of %v by %v: %v, %d", low, by, p, e)
		}
	}
	if p, e := prism.Move(low, vec(top, top, top)); !same(p, api.Prism{Base: poly(0, 0, 1, 0, 0, 1), Hi: 1}) || e != api.OK {
		t.Errorf("Move of %v: %v, %d", low, p, e)
	}
}

func TestOf(t *testing.T) {
	for _, c := range []struct {
		b    api.Box
		want api.Prism
	}{
		{unit, api.Prism{Base: poly(0, 0, 1, 0, 1, 1, 0, 1), Hi: 1}}, {bx(-3, 5, 7, 4, 9, 8), api.Prism{Base: poly(-3, 5, 4, 5, 4, 9, -3, 9), Lo: 7, Hi: 8}},
		{whole, api.Prism{Base: poly(-top, -top, top, -top, top, top, -top, top), Lo: -top, Hi: top}},
	} {
		p, e := prism.Of(c.b)
		if !same(p, c.want) || e != api.OK || prism.Check(p) != api.OK {
			t.Errorf("Of %v: %v, %d", c.b, p, e)
		}
		if h, e := prism.Hull(p); h != c.b || e != api.OK {
			t.Errorf("Hull of the prism of %v: %v, %d", c.b, h, e)
		}
		size := box.Size(c.b)
		if n, e := prism.Area2(p); n != 2*int64(size.X)*int64(size.Y) || e != api.OK {
			t.Errorf("Area2 of the prism of %v: %d, %d", c.b, n, e)
		}
	}
}

func TestSlice(t *testing.T) {
	p := api.Prism{Base: poly(0, 0, 10, 0, 0, 10), Lo: -2, Hi: 5}
	for _, c := range []struct{ lo, hi, wantLo, wantHi int }{
		{-2, 5, -2, 5}, {-9, 9, -2, 5}, {0, 3, 0, 3}, {4, 9, 4, 5}, {-9, -1, -2, -1}, {-2, -1, -2, -1}, {4, 5, 4, 5}, {-1, 4, -1, 4}, {math.MinInt, math.MaxInt, -2, 5}, {math.MinInt, 0, -2, 0}, {3, math.MaxInt, 3, 5},
	} {
		if s, e := prism.Slice(p, c.lo, c.hi); !same(s, api.Prism{Base: p.Base, Lo: c.wantLo, Hi: c.wantHi}) || e != api.OK {
			t.Errorf("Slice from %d to %d: %v, %d", c.lo, c.hi, s, e)
		}
	}
	for _, c := range []struct {
		lo, hi int
		want   api.Errno
	}{
		{0, 0, api.ErrInvalid}, {3, 2, api.ErrInvalid}, {9, 9, api.ErrInvalid}, {9, 7, api.ErrInvalid}, {math.MaxInt, math.MinInt, api.ErrInvalid}, {math.MinInt, math.MinInt, api.ErrInvalid},
		{5, 6, api.ErrNone}, {-3, -2, api.ErrNone}, {6, 7, api.ErrNone}, {-9, -5, api.ErrNone}, {math.MinInt, -2, api.ErrNone}, {5, math.MaxInt, api.ErrNone}, {math.MaxInt - 1, math.MaxInt, api.ErrNone},
	} {
		if s, e := prism.Slice(p, c.lo, c.hi); !same(s, api.Prism{}) || e != c.want {
			t.Errorf("Slice from %d to %d: %v, %d", c.lo, c.hi, s, e)
		}
	}
}

// TestMemory changes results and looks for changes in arguments and in other results.
func TestMemory(t *testing.T) {
	for i, p := range goodPrisms() {
		before := goodPrisms()[i]
		var results []api.Prism
		for range 2 {
			moved, _ := prism.Move(p, vec(0, 0, 0))
			slice, _ := prism.Slice(p, -top, top)
			results = append(results, moved, slice)
		}
		for _, r := range results {
			if !same(r, before) {
				t.Errorf("%v became %v", before, r)
			}
			for k := range r.Base {
				r.Base[k] = at(77, 77)
			}
		}
		for _, call := range calls(unit, vec(1, 0, 0), 0, 1) {
			call(p)
		}
		if !same(p, before) {
			t.Errorf("%v became %v", before, p)
		}
	}
}

// TestAllArguments calls the functions with numbers of all sizes.
func TestAllArguments(t *testing.T) {
	random := rand.New(rand.NewSource(81))
	number := func() int {
		some := []int{0, 1, 2, 3, 5, -1, 9, top, -top, top + 1, -top - 1, math.MaxInt, math.MinInt}
		return some[random.Intn(len(some))]
	}
	for range 20000 {
		p := api.Prism{Lo: number(), Hi: number()}
		for range random.Intn(6) {
			p.Base = append(p.Base, at(number(), number()))
		}
		if random.Intn(3) == 0 {
			p.Base, _ = polygon.Hull(p.Base)
		}
		b, by := bx(number(), number(), number(), number(), number(), number()), vec(number(), number(), number())
		want := prism.Check(p)
		for name, call := range calls(b, by, number(), number()) {
			if e, zero := call(p); want != api.OK && e != want || e != api.OK && !zero {
				t.Errorf("%s of %v and %v: %d (other results zero: %v), not %d", name, p, b, e, zero, want)
			}
		}
		if is, e := prism.Meets(p, p); e != want || is != (e == api.OK) {
			t.Errorf("Meets of %v and itself: %v, %d", p, is, e)
		}
	}
}
