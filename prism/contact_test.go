package prism_test

import (
	"math/big"
	"math/rand"
	"slices"
	"testing"

	"gangsaw/api"
	"gangsaw/box"
	"gangsaw/polygon"
	"gangsaw/prism"
)

// smallBases are all convex polygons with corners on a grid of size x size points, each beginning somewhere.
func smallBases(size int) []api.Polygon {
	var list []api.Polygon
	for set := range 1 << (size * size) {
		var corners api.Polygon
		for i := range size * size {
			if set>>i&1 == 1 {
				corners = append(corners, at(i/size, i%size))
			}
		}
		if hull, e := polygon.Hull(corners); e == api.OK && len(hull) == len(corners) {
			list = append(list, turned(hull, len(list)))
		}
	}
	return list
}

// rectangles are all of a grid with coordinates from low to high, as boxes with z from 0 to 1.
func rectangles(low, high int) []api.Box {
	var list []api.Box
	for x := low; x < high; x++ {
		for y := low; y < high; y++ {
			for toX := x + 1; toX <= high; toX++ {
				for toY := y + 1; toY <= high; toY++ {
					list = append(list, bx(x, y, 0, toX, toY, 1))
				}
			}
		}
	}
	return list
}

func cornersOf(b api.Box) []api.Point {
	return []api.Point{at(b.Min.X, b.Min.Y), at(b.Min.X, b.Max.Y), at(b.Max.X, b.Min.Y), at(b.Max.X, b.Max.Y)}
}

// common tells whether two bases have a common part with an area: if the zero vector is inside the hull of the differences of their corners.
func common(p, q []api.Point) bool {
	var differences []api.Point
	for _, a := range p {
		for _, b := range q {
			differences = append(differences, at(a.X-b.X, a.Y-b.Y))
		}
	}
	hull, _ := polygon.Hull(differences)
	side, _ := polygon.Side(hull, at(0, 0))
	return side == 1
}

// exactlyCommon is common for corners of all sizes: one base is cut along the edges of the other one, and the area of what is left is computed.
func exactlyCommon(p, q api.Polygon) bool {
	type point struct{ x, y *big.Rat }
	number := func(n int) *big.Rat { return new(big.Rat).SetInt64(int64(n)) }
	plus := func(a, b *big.Rat) *big.Rat { return new(big.Rat).Add(a, b) }
	minus := func(a, b *big.Rat) *big.Rat { return new(big.Rat).Sub(a, b) }
	times := func(a, b *big.Rat) *big.Rat { return new(big.Rat).Mul(a, b) }
	cross := func(a, b, c point) *big.Rat {
		return minus(times(minus(b.x, a.x), minus(c.y, a.y)), times(minus(b.y, a.y), minus(c.x, a.x)))
	}
	var left []point
	for _, c := range q {
		left = append(left, point{number(c.X), number(c.Y)})
	}
	for i, corner := range p {
		next := p[(i+1)%len(p)]
		from, to := point{number(corner.X), number(corner.Y)}, point{number(next.X), number(next.Y)}
		var cut []point
		for k, a := range left {
			b := left[(k+1)%len(left)]
			ofA, ofB := cross(from, to, a), cross(from, to, b)
			if ofA.Sign() >= 0 {
				cut = append(cut, a)
			}
			if ofA.Sign()*ofB.Sign() < 0 {
				share := new(big.Rat).Quo(ofA, minus(ofA, ofB))
				cut = append(cut, point{plus(a.x, times(share, minus(b.x, a.x))), plus(a.y, times(share, minus(b.y, a.y)))})
			}
		}
		left = cut
	}
	area := new(big.Rat)
	for i := 2; i < len(left); i++ {
		area.Add(area, cross(left[0], left[i-1], left[i]))
	}
	return area.Sign() > 0
}

// slowSeparator has the words of the document.
func slowSeparator(base api.Polygon, b api.Box) int {
	for i, from := range base {
		to := base[(i+1)%len(base)]
		left := func(c api.Point) bool { return (to.X-from.X)*(c.Y-from.Y)-(to.Y-from.Y)*(c.X-from.X) > 0 }
		if !slices.ContainsFunc(cornersOf(b), left) {
			return i
		}
	}
	for i, within := range []func(api.Point) bool{
		func(c api.Point) bool { return c.X > b.Min.X }, func(c api.Point) bool { return c.X < b.Max.X }, func(c api.Point) bool { return c.Y > b.Min.Y }, func(c api.Point) bool { return c.Y < b.Max.Y },
	} {
		if !slices.ContainsFunc(base, within) {
			return 1000 + i
		}
	}
	return -1
}

func wantSeparator(t *testing.T, p api.Prism, b api.Box, want int) {
	t.Helper()
	if i, e := prism.Separator(p, b); i != want || e != api.OK {
		t.Errorf("Separator of %v and %v: %d, %d, not %d", p, b, i, e, want)
	}
}

// wantContact examines Overlaps and Covers, and Meets with the prism of the box.
func wantContact(t *testing.T, p api.Prism, b api.Box, overlaps, covers bool) {
	t.Helper()
	if is, e := prism.Overlaps(p, b); is != overlaps || e != api.OK {
		t.Errorf("Overlaps of %v and %v: %v, %d", p, b, is, e)
	}
	if is, e := prism.Covers(p, b); is != covers || e != api.OK {
		t.Errorf("Covers of %v and %v: %v, %d", p, b, is, e)
	}
	q, e := prism.Of(b)
	if e != api.OK {
		t.Errorf("Of %v: %d", b, e)
	}
	wantMeets(t, p, q, overlaps)
	hull, e := prism.Hull(p)
	if e != api.OK || overlaps && !box.Overlap(hull, b) || covers && (!overlaps || !box.Inside(b, hull)) {
		t.Errorf("Hull of %v: %v, %d, and %v", p, hull, e, b)
	}
}

func wantMeets(t *testing.T, p, q api.Prism, want bool) {
	t.Helper()
	if is, e := prism.Meets(p, q); is != want || e != api.OK {
		t.Errorf("Meets of %v and %v: %v, %d", p, q, is, e)
	}
	if is, e := prism.Meets(q, p); is != want || e != api.OK {
		t.Errorf("Meets of %v and %v: %v, %d", q, p, is, e)
	}
}

func TestSeparator(t *testing.T) {
	rhombus := api.Prism{Base: poly(3, 0, 6, 3, 3, 6, 0, 3), Hi: 5}
	for _, c := range []struct {
		p    api.Prism
		b    api.Box
		want int
	}{
		{example, bx(5, 5, 0, 9, 9, 5), 1}, {example, bx(4, 5, 0, 9, 9, 5), -1}, {example, bx(-5, 3, 0, 0, 4, 5), 2}, {example, bx(1, -3, 0, 2, 0, 1), 0}, {example, bx(1, -3, 0, 2, 1, 1), -1}, {example, bx(10, -3, 0, 12, 0, 1), 0},
		{example, bx(10, 0, 0, 12, 4, 1), 1}, {example, bx(-4, 10, 0, 0, 12, 1), 2}, {example, bx(-4, 10, 0, 1, 12, 1), 1002}, {example, bx(-5, -5, 0, 0, 0, 1), 0}, {example, bx(-5, -4, 0, 0, 1, 1), 2},
		// Only sides of the rectangle separate.
		{example, bx(9, -2, 0, 12, 1, 1), -1}, {example, bx(10, -2, 0, 12, 1, 1), 1000}, {example, bx(-2, 10, 0, 1, 12, 1), 1002}, {example, bx(-1, 9, 0, 1, 12, 1), -1},
		{rhombus, bx(6, 0, 0, 9, 6, 5), 1000}, {rhombus, bx(-4, 0, 0, 0, 6, 5), 1001}, {rhombus, bx(0, 6, 0, 6, 9, 5), 1002}, {rhombus, bx(0, -4, 0, 6, 0, 5), 1003}, {rhombus, bx(5, 0, 0, 9, 6, 5), -1}, {rhombus, bx(9, 9, 0, 10, 10, 5), 1},
		{rhombus, bx(6, 6, 0, 9, 9, 1), 1}, {rhombus, bx(-3, -3, 0, 0, 0, 1), 3}, {rhombus, bx(2, 2, 0, 3, 3, 1), -1}, {rhombus, bx(0, 0, 0, 1, 1, 1), 3}, {rhombus, bx(0, 0, 0, 2, 2, 1), -1},
		// The ranges of z do not matter.
		{example, bx(4, 5, 5, 9, 9, 8), -1}, {example, bx(5, 5, -top, 9, 9, 1-top), 1}, {example, whole, -1},
	} {
		for range 2 {
			if c.want != slowSeparator(c.p.Base, c.b) {
				t.Fatalf("the slow separator of %v and %v is not %d", c.p, c.b, c.want)
			}
			wantSeparator(t, c.p, c.b, c.want)
			// The same with another first corner.
			if c.want > 0 && c.want < 1000 {
				c.want--
			} else if c.want == 0 {
				break
			}
			c.p.Base = turned(c.p.Base, 1)
		}
	}
}

func TestContact(t *testing.T) {
	for _, c := range []struct {
		p                api.Prism
		b                api.Box
		overlaps, covers bool
	}{
		{example, bx(5, 5, 0, 9, 9, 5), false, false}, {example, bx(4, 5, 0, 9, 9, 5), true, false}, {example, bx(1, 1, 1, 4, 4, 2), true, true}, {example, bx(1, 1, 1, 6, 6, 2), true, false}, {example, bx(-5, 3, 0, 0, 4, 5), false, false},
		{example, bx(0, 0, 0, 5, 5, 5), true, true}, {example, bx(0, 0, 0, 5, 6, 5), true, false}, {example, bx(0, 0, 0, 1, 9, 5), true, true}, {example, bx(-1, 0, 0, 1, 1, 5), true, false}, {example, bx(0, -1, 0, 1, 1, 5), true, false}, {example, bx(9, 0, 0, 10, 1, 5), true, false},
		{example, bx(0, 0, 5, 5, 5, 6), false, false}, {example, bx(0, 0, -1, 5, 5, 0), false, false}, {example, bx(0, 0, 4, 5, 5, 6), true, false}, {example, bx(0, 0, -1, 5, 5, 1), true, false}, {example, bx(0, 0, 4, 5, 5, 5), true, true}, {example, bx(0, 0, 0, 5, 5, 1), true, true},
		{example, bx(0, 0, 7, 5, 5, 9), false, false}, {example, bx(0, 0, -9, 5, 5, -7), false, false}, {example, bx(0, 0, -9, 5, 5, 9), true, false}, {example, whole, true, false}, {example, bx(10, -5, 0, 12, 5, 5), false, false}, {example, bx(-5, 10, 0, 5, 12, 5), false, false},
		// Between its two long edges, the sliver is half a millimetre wide at 0, and less behind.
		{sliver, bx(0, 0, 0, 1, 1, 1), true, false}, {sliver, bx(0, 1, 0, 1, 2, 1), false, false}, {sliver, bx(1, 0, 0, 2, 1, 1), true, false}, {sliver, bx(1, -1, 0, 2, 0, 1), false, false}, {sliver, bx(top-1, top-2, 0, top, top-1, 1), true, false},
		{sliver, bx(-top, -top, -top, 1-top, 1-top, top), true, false}, {sliver, bx(1-top, -top, -top, top, 1-top, top), true, false}, {sliver, bx(2-top, -top, -top, top, 1-top, top), false, false}, {sliver, bx(-top, 1-top, 0, 1-top, 2-top, 1), false, false}, {sliver, bx(top-1, top-1, 0, top, top, 1), false, false},
		{api.Prism{Base: bowl(64), Hi: 1}, bx(0, 63, 0, 62, 3900, 1), true, false}, {api.Prism{Base: bowl(64), Hi: 1}, bx(20, 400, 0, 21, 1260, 1), true, false}, {api.Prism{Base: bowl(64), Hi: 1}, bx(20, 441, 0, 21, 1260, 1), true, true},
		{api.Prism{Base: bowl(64), Hi: 1}, bx(20, 441, 0, 21, 1261, 1), true, false}, {api.Prism{Base: bowl(64), Hi: 1}, bx(20, 0, 0, 63, 400, 1), false, false}, {api.Prism{Base: bowl(64), Hi: 1}, bx(20, 0, 0, 63, 401, 1), true, false},
	} {
		for i := range c.p.Base {
			wantContact(t, api.Prism{Base: turned(c.p.Base, i), Lo: c.p.Lo, Hi: c.p.Hi}, c.b, c.overlaps, c.covers)
		}
	}
	for _, b := range []api.Box{unit, whole, bx(-5, 3, 1, 9, 4, 2)} {
		p, _ := prism.Of(b)
		wantContact(t, p, b, true, true)
		wantContact(t, p, whole, true, b == whole)
	}
}

func TestMeets(t *testing.T) {
	other := api.Prism{Base: poly(10, 10, 0, 10, 10, 0), Hi: 5}
	hexagon := poly(2, 0, 4, 0, 6, 3, 4, 6, 2, 6, 0, 3)
	wantMeets(t, example, other, false)
	wantMeets(t, example, api.Prism{Base: poly(10, 10, 0, 10, 9, 0), Hi: 5}, true)
	wantMeets(t, example, example, true)
	wantMeets(t, example, api.Prism{Base: example.Base, Lo: 5, Hi: 9}, false)
	wantMeets(t, example, api.Prism{Base: example.Base, Lo: 4, Hi: 9}, true)
	wantMeets(t, example, api.Prism{Base: example.Base, Lo: -9, Hi: 0}, false)
	wantMeets(t, example, api.Prism{Base: poly(1, 1, 2, 1, 1, 2), Lo: 1, Hi: 2}, true)
	// They touch in a corner, along a part of an edge, and from corner to edge.
	wantMeets(t, example, api.Prism{Base: poly(10, 0, 20, -5, 20, 5), Hi: 5}, false)
	wantMeets(t, example, api.Prism{Base: poly(3, 0, -4, 0, 0, -9), Hi: 5}, false)
	wantMeets(t, example, api.Prism{Base: poly(6, 4, 20, 5, 19, 9), Hi: 5}, false)
	wantMeets(t, example, api.Prism{Base: poly(5, 4, 20, 5, 19, 9), Hi: 5}, true)
	for _, c := range []struct {
		x, y int
		want bool
	}{{0, 0, true}, {5, 0, true}, {6, 0, false}, {4, 3, false}, {4, 2, true}, {3, 3, true}, {0, 6, false}, {0, 5, true}, {-4, -3, false}, {-4, -2, true}, {2, 6, false}, {-2, -5, true}, {5, 2, false}, {5, 1, true}} {
		q, e := prism.Move(api.Prism{Base: hexagon, Hi: 1}, vec(c.x, c.y, 0))
		if e != api.OK {
			t.Fatalf("Move by %d, %d: %d", c.x, c.y, e)
		}
		wantMeets(t, api.Prism{Base: hexagon, Hi: 1}, q, c.want)
	}
	wantMeets(t, sliver, api.Prism{Base: poly(-top, -top, top-1, top-1, -top, top), Lo: -top, Hi: top}, false)
	wantMeets(t, sliver, api.Prism{Base: poly(-top, -top, top, top, -top, top), Lo: -top, Hi: top}, false)
	wantMeets(t, sliver, api.Prism{Base: poly(-top, -top, top, top-1, -top, top), Lo: -top, Hi: top}, true)
	wantMeets(t, sliver, api.Prism{Base: poly(-top, -top, top, -top, top, top-1), Lo: -top, Hi: top}, false)
}

// TestRectangles has all small bases and rectangles.
func TestRectangles(t *testing.T) {
	seen := map[int]int{}
	for _, base := range smallBases(3) {
		p := api.Prism{Base: base, Hi: 1}
		for _, b := range rectangles(-1, 4) {
			separator := slowSeparator(base, b)
			seen[separator]++
			wantSeparator(t, p, b, separator)
			overlaps := common(base, cornersOf(b))
			if overlaps != (separator == -1) {
				t.Fatalf("%v and %v are separated by %d", base, b, separator)
			}
			covers := true
			for x := b.Min.X; x <= b.Max.X; x++ {
				for y := b.Min.Y; y <= b.Max.Y; y++ {
					if side, e := polygon.Side(base, at(x, y)); side < 0 || e != api.OK {
						covers = false
					}
				}
			}
			wantContact(t, p, b, overlaps, covers)
		}
	}
	for _, i := range []int{-1, 0, 1, 2, 3, 1000, 1001, 1002, 1003} {
		if seen[i] == 0 {
			t.Errorf("nothing is separated by %d", i)
		}
	}
}

// TestSmallPrisms has pairs of small prisms.
func TestSmallPrisms(t *testing.T) {
	random := rand.New(rand.NewSource(82))
	bases := smallBases(4)
	seen := map[bool]int{}
	for range 30000 {
		pick := func() api.Prism {
			lo := random.Intn(4)
			return api.Prism{Base: bases[random.Intn(len(bases))], Lo: lo, Hi: lo + 1 + random.Intn(3)}
		}
		p, q := pick(), pick()
		q, e := prism.Move(q, vec(random.Intn(7)-3, random.Intn(7)-3, 0))
		if e != api.OK {
			t.Fatalf("Move: %d", e)
		}
		want := max(p.Lo, q.Lo) < min(p.Hi, q.Hi) && common(p.Base, q.Base)
		wantMeets(t, p, q, want)
		seen[want]++
		movedP, e1 := prism.Move(p, vec(top-9, -top+9, 77))
		movedQ, e2 := prism.Move(q, vec(top-9, -top+9, 77))
		if e1 != api.OK || e2 != api.OK {
			t.Fatalf("Move of %v and %v: %d, %d", p, q, e1, e2)
		}
		wantMeets(t, movedP, movedQ, want)
	}
	if seen[true] < 3000 || seen[false] < 3000 {
		t.Errorf("numbers of results: %v", seen)
	}
}

// TestMovedBoxes moves prisms and boxes.
func TestMovedBoxes(t *testing.T) {
	random := rand.New(rand.NewSource(83))
	bases := smallBases(4)
	for range 5000 {
		p := api.Prism{Base: bases[random.Intn(len(bases))], Lo: random.Intn(3) - 2, Hi: 1 + random.Intn(3)}
		x, y, z := random.Intn(5)-1, random.Intn(5)-1, random.Intn(5)-2
		b := bx(x, y, z, x+1+random.Intn(3), y+1+random.Intn(3), z+1+random.Intn(3))
		by := vec(random.Intn(top), -random.Intn(top-9), 9-top)
		movedP, e1 := prism.Move(p, by)
		movedB, e2 := box.Move(b, by)
		overlaps, _ := prism.Overlaps(p, b)
		covers, _ := prism.Covers(p, b)
		separator, _ := prism.Separator(p, b)
		if e1 != api.OK || e2 != api.OK {
			continue
		}
		wantContact(t, movedP, movedB, overlaps, covers)
		wantSeparator(t, movedP, movedB, separator)
		if overlaps != (separator == -1 && max(p.Lo, b.Min.Z) < min(p.Hi, b.Max.Z)) {
			t.Errorf("Overlaps of %v and %v: %v, the separator is %d", p, b, overlaps, separator)
		}
	}
}

func TestPrismsOfBoxes(t *testing.T) {
	random := rand.New(rand.NewSource(84))
	for range 20000 {
		c := func() int { return random.Intn(5) - 2 }
		a, b := bx(c(), c(), c(), 1+c(), 1+c(), 1+c()), bx(c(), c(), c(), 1+c(), 1+c(), 1+c())
		if box.Check(a) == api.OK && box.Check(b) == api.OK {
			p, e := prism.Of(a)
			if e != api.OK {
				t.Fatalf("Of %v: %d", a, e)
			}
			wantContact(t, p, b, box.Overlap(a, b), box.Inside(b, a))
		}
	}
}

// TestLargePrisms has bases of all sizes, some of which touch each other or almost do.
func TestLargePrisms(t *testing.T) {
	random := rand.New(rand.NewSource(85))
	seen := map[bool]int{}
	for range 3000 {
		points := func(near ...api.Point) []api.Point {
			size := []int{3, 1000, top}[random.Intn(3)]
			middle := func() int { return random.Intn(2*(top-size)+1) - (top - size) }
			x, y := middle(), middle()
			for range 3 + random.Intn(20) {
				near = append(near, at(x+random.Intn(2*size+1)-size, y+random.Intn(2*size+1)-size))
			}
			return near
		}
		base, e := polygon.Hull(points())
		if e != api.OK {
			continue
		}
		i := random.Intn(len(base))
		a, b := base[i], base[(i+1)%len(base)]
		near := at((a.X+b.X)/2, (a.Y+b.Y)/2)
		other, e := polygon.Hull(points([]api.Point{a, b, near}[:1+random.Intn(3)]...))
		if e != api.OK {
			continue
		}
		p, q := api.Prism{Base: turned(base, i), Hi: 1}, api.Prism{Base: other, Lo: -top, Hi: top}
		want := exactlyCommon(base, other)
		seen[want]++
		wantMeets(t, p, q, want)
		r := bx(max(near.X-1-random.Intn(9), -top), max(near.Y-1-random.Intn(9), -top), 0, near.X, near.Y, 1)
		if box.Check(r) == api.OK {
			around, _ := prism.Of(r)
			wantSeparator(t, p, r, slowSeparator(p.Base, r))
			covers := !slices.ContainsFunc(cornersOf(r), func(c api.Point) bool {
				side, _ := polygon.Side(base, c)
				return side < 0
			})
			wantContact(t, p, r, exactlyCommon(base, around.Base), covers)
		}
	}
	if seen[true] < 300 || seen[false] < 300 {
		t.Errorf("numbers of results: %v", seen)
	}
}
