package polygon_test

import (
	"testing"

	"gangsaw/api"
	"gangsaw/polygon"
)

// common solves the equation of two sides: it counts their common points as 0, 1, or 2 for more.
func common(a, b, c, d api.Point) int {
	cross := func(p, q api.Point) int { return p.X*q.Y - p.Y*q.X }
	minus := func(p, q api.Point) api.Point { return at(p.X-q.X, p.Y-q.Y) }
	ab, cd, ac := minus(b, a), minus(d, c), minus(c, a)
	if det := cross(ab, cd); det != 0 {
		t, u := cross(ac, cd), cross(ac, ab)
		if det < 0 {
			det, t, u = -det, -t, -u
		}
		if t < 0 || t > det || u < 0 || u > det {
			return 0
		}
		return 1
	}
	if cross(ac, ab) != 0 {
		return 0
	}
	if a.X == b.X {
		a.X, b.X, c.X, d.X = a.Y, b.Y, c.Y, d.Y
	}
	from, to := max(min(a.X, b.X), min(c.X, d.X)), min(max(a.X, b.X), max(c.X, d.X))
	return min(max(to-from+1, 0), 2)
}

func slowSimple(p api.Polygon) bool {
	n := len(p)
	for i := range p {
		for k := range p {
			shared := common(p[i], p[(i+1)%n], p[k], p[(k+1)%n])
			switch {
			case i == k:
			case (i+1)%n == k || (k+1)%n == i:
				if shared != 1 {
					return false
				}
			case shared != 0:
				return false
			}
		}
	}
	return true
}

func slowConvex(p api.Polygon) bool {
	n := len(p)
	for i, b := range p {
		a, c := p[(i+n-1)%n], p[(i+1)%n]
		if (b.X-a.X)*(c.Y-a.Y)-(b.Y-a.Y)*(c.X-a.X) <= 0 {
			return false
		}
	}
	return slowSimple(p)
}

// slowSide follows a ray so flat that it meets no other point of the grid before it has left the polygon.
func slowSide(p api.Polygon, q api.Point) int {
	crossed := 0
	far := at(q.X+100000, q.Y+1)
	for i, a := range p {
		b := p[(i+1)%len(p)]
		if common(a, b, q, q) > 0 {
			return 0
		}
		crossed += common(a, b, q, far)
	}
	return crossed%2*2 - 1
}

// allPolygons visits all valid polygons with n corners on a grid of size x size points.
func allPolygons(n, size int, visit func(api.Polygon)) {
	p := make(api.Polygon, n)
	var choose func(i int)
	choose = func(i int) {
		if i == n {
			if p[0] != p[n-1] {
				visit(p)
			}
			return
		}
		for at := range size * size {
			p[i] = api.Point{X: at / size, Y: at % size}
			if i == 0 || p[i] != p[i-1] {
				choose(i + 1)
			}
		}
	}
	choose(0)
}

func wantShape(t *testing.T, p api.Polygon, simple, convex bool) {
	t.Helper()
	if is, e := polygon.Simple(p); is != simple || e != api.OK {
		t.Errorf("Simple of %v: %v, %d", p, is, e)
	}
	if is, e := polygon.Convex(p); is != convex || e != api.OK {
		t.Errorf("Convex of %v: %v, %d", p, is, e)
	}
}

func wantSide(t *testing.T, p api.Polygon, q api.Point, want int) {
	t.Helper()
	for _, p := range []api.Polygon{p, polygon.Reverse(p)} {
		if n, e := polygon.Side(p, q); n != want || e != api.OK {
			t.Errorf("Side of %v and %v: %d, %d, not %d", p, q, n, e, want)
		}
	}
}

func TestShapes(t *testing.T) {
	for _, c := range []struct {
		p              api.Polygon
		simple, convex bool
	}{
		{poly(0, 0, 10, 0, 10, 10, 0, 10), true, true}, {poly(0, 10, 10, 10, 10, 0, 0, 0), true, false}, {poly(0, 0, 10, 10, 10, 0, 0, 10), false, false},
		{poly(0, 0, 5, 0, 10, 0, 10, 10), true, false}, {poly(0, 0, 10, 0, 5, 0), false, false}, {poly(0, 0, 5, 0, 10, 0), false, false},
		{poly(0, 0, 10, 0, 10, 10, 10, 5, 10, 10), false, false}, {poly(0, 0, 10, 0, 3, 3, 0, 10), true, false},
		// A side meets a corner of another one, from outside and from inside.
		{poly(0, 0, 10, 0, 10, 10, 5, 0, 0, 10), false, false}, {poly(0, 0, 10, 0, 10, 10, 5, 10, 5, 15, 0, 15, 0, 10, 5, 10), false, false},
		// Two sides lie on one line, apart, with a common point, with a common part.
		{poly(0, 0, 9, 0, 9, 3, 6, 3, 6, 1, 3, 1, 3, 3, 0, 3), true, false}, {poly(0, 0, 9, 0, 9, 3, 5, 3, 5, 1, 5, 3, 0, 3), false, false},
		{poly(0, 0, 9, 0, 9, 3, 4, 3, 4, 1, 5, 1, 5, 3, 0, 3), false, false},
		// Five corners that turn to the left twice around.
		{poly(0, 10, 6, -8, -10, 3, 10, 3, -6, -8), false, false}, {polygon.Reverse(poly(0, 10, 6, -8, -10, 3, 10, 3, -6, -8)), false, false},
		// A convex polygon that is run through twice.
		{poly(0, 0, 4, 0, 4, 4, 0, 4, 0, 0, 4, 0, 4, 4, 0, 4), false, false},
		{poly(-top, -top, top, -top, top, top, -top, top), true, true}, {poly(-top, -top, top, top, top, -top, -top, top), false, false},
		// The tip of a spike lies off the longest line by less than a millionth.
		{poly(-top, -top, top, top-1, top, -top, top-1, top-2, 0, -top), true, false}, {poly(-top, -top, top, top-1, top, -top, top-1, top-1, 0, -top), false, false},
		{poly(-top, -top, top, top-1, top-1, top-1), true, true}, {poly(-top, -top, top, top-1, top-1, top-2), true, false},
		{bowl(3), true, true}, {bowl(api.MaxCorners), true, true}, {polygon.Reverse(bowl(api.MaxCorners)), true, false},
	} {
		for range c.p {
			wantShape(t, c.p, c.simple, c.convex)
			c.p = append(c.p[1:len(c.p):len(c.p)], c.p[0])
		}
	}
}

func TestShapesOfManyCorners(t *testing.T) {
	for _, p := range someSimple() {
		wantShape(t, p, true, slowConvex(p))
	}
	// The last corner of a bowl is moved: around its outside, into its inside, onto a corner and beyond it.
	p := bowl(api.MaxCorners)
	for _, c := range []struct {
		last           api.Point
		simple, convex bool
	}{{at(64, 0), true, false}, {at(-1, 0), true, true}, {at(30, 901), true, false}, {at(30, 900), false, false}, {at(30, 899), false, false}, {at(61, 3721), false, false}} {
		p[63] = c.last
		wantShape(t, p, c.simple, c.convex)
	}
}

func TestShapesAgainstSlowOnes(t *testing.T) {
	for _, c := range [][2]int{{3, 5}, {4, 4}, {5, 3}} {
		seen := map[[2]bool]int{}
		allPolygons(c[0], c[1], func(p api.Polygon) {
			simple, convex := slowSimple(p), slowConvex(p)
			wantShape(t, p, simple, convex)
			seen[[2]bool{simple, convex}]++
		})
		if len(seen) != 3 {
			t.Errorf("polygons of %d corners: %v", c[0], seen)
		}
	}
}

func TestSide(t *testing.T) {
	square := poly(0, 0, 10, 0, 10, 10, 0, 10)
	comb := poly(0, 0, 9, 0, 9, 9, 6, 9, 6, 3, 3, 3, 3, 9, 0, 9)
	whole := poly(-top, -top, top, -top, top, top, -top, top)
	sliver := poly(-top, -top, top, top-1, top-1, top-1)
	for _, c := range []struct {
		p    api.Polygon
		q    api.Point
		want int
	}{
		{square, at(5, 5), 1}, {square, at(10, 5), 0}, {square, at(11, 5), -1}, {square, at(-1, 5), -1}, {square, at(5, 11), -1}, {square, at(5, -1), -1},
		{square, at(0, 0), 0}, {square, at(10, 10), 0}, {square, at(0, 10), 0}, {square, at(5, 0), 0}, {square, at(-1, 0), -1}, {square, at(-1, 10), -1}, {square, at(11, 0), -1},
		{square, at(1, 1), 1}, {square, at(9, 9), 1}, {square, at(top, top), -1}, {square, at(-top, 5), -1}, {square, at(-top, 0), -1},
		{comb, at(1, 3), 1}, {comb, at(4, 3), 0}, {comb, at(4, 4), -1}, {comb, at(4, 9), -1}, {comb, at(3, 9), 0}, {comb, at(-1, 3), -1}, {comb, at(-1, 9), -1}, {comb, at(7, 5), 1}, {comb, at(4, 2), 1},
		{whole, at(0, 0), 1}, {whole, at(top, 0), 0}, {whole, at(top, top), 0}, {whole, at(1-top, 1-top), 1}, {whole, at(-top, top), 0},
		{sliver, at(top-1, top-2), -1}, {sliver, at(top-1, top-1), 0}, {sliver, at(0, 0), 0}, {sliver, at(1, 1), 0}, {sliver, at(1, 0), -1}, {sliver, at(0, 1), -1}, {sliver, at(-top, top), -1},
	} {
		wantSide(t, c.p, c.q, c.want)
	}
}

func TestSideAgainstRays(t *testing.T) {
	for _, c := range [][2]int{{3, 4}, {4, 3}, {5, 3}} {
		allPolygons(c[0], c[1], func(p api.Polygon) {
			if !slowSimple(p) || p[0].X > p[1].X {
				return
			}
			for x := -1; x <= c[1]; x++ {
				for y := -1; y <= c[1]; y++ {
					wantSide(t, p, at(x, y), slowSide(p, at(x, y)))
				}
			}
		})
	}
}

// TestPick compares the area of polygons with the numbers of grid points, and those with slow ones.
func TestPick(t *testing.T) {
	for i, p := range someSimple() {
		low, high, e := polygon.Bounds(p)
		if e != api.OK || high.X-low.X > 100 || high.Y-low.Y > 200 || i > 20 && i%5 > 0 {
			continue
		}
		inside, onSides := int64(0), int64(0)
		for x := low.X - 1; x <= high.X+1; x++ {
			for y := low.Y - 1; y <= high.Y+1; y++ {
				side, e := polygon.Side(p, at(x, y))
				if e != api.OK || x%3 == 0 && side != slowSide(p, at(x, y)) {
					t.Fatalf("Side of %v and %d, %d: %d, %d", p, x, y, side, e)
				}
				switch side {
				case 1:
					inside++
				case 0:
					onSides++
				}
			}
		}
		area, e := polygon.Area2(p)
		if e != api.OK || 2*inside+onSides != max(area, -area)+2 {
			t.Errorf("%v: area %d, %d points inside, %d on sides", p, area, inside, onSides)
		}
	}
}
