package plane_test

import (
	"math"
	"math/rand"
	"testing"

	"gangsaw/api"
	"gangsaw/box"
	"gangsaw/plane"
)

const (
	top  = api.MaxCoord
	most = 1000       // of A, B and C
	topD = 4000000000 // of D
)

func vec(x, y, z int) api.Vec {
	return api.Vec{X: x, Y: y, Z: z}
}

// bx returns the box from the first three numbers to the last three.
func bx(x, y, z, toX, toY, toZ int) api.Box {
	return api.Box{Min: vec(x, y, z), Max: vec(toX, toY, toZ)}
}

func half(a, b, c int, d int64) api.Half {
	return api.Half{A: a, B: b, C: c, D: d}
}

var (
	whole = bx(-top, -top, -top, top, top, top)
	unit  = bx(0, 0, 0, 1, 1, 1)
	slope = half(1, 0, 2, 10) // of the examples
)

// badHalves have the errors of half-spaces.
func badHalves() map[api.Half]api.Errno {
	bad := map[api.Half]api.Errno{}
	for _, n := range []int{most + 1, -most - 1, top, -top, 1 << 32, math.MaxInt, math.MinInt, math.MinInt + 1} {
		for _, h := range []api.Half{half(n, 0, 0, 0), half(0, n, 0, 0), half(0, 0, n, 0), half(1, 2, n, topD), half(n, n, n, 1), half(most, n, 0, topD+1)} {
			bad[h] = api.ErrRange
		}
	}
	for _, d := range []int64{topD + 1, -topD - 1, math.MaxInt64, math.MinInt64, 1 << 40} {
		bad[half(1, 2, 3, d)], bad[half(most, -most, most, d)] = api.ErrRange, api.ErrRange
		bad[half(0, 0, 0, d)] = api.ErrRange
	}
	for _, d := range []int64{0, 1, -1, topD, -topD} {
		bad[half(0, 0, 0, d)] = api.ErrInvalid
	}
	return bad
}

// badBoxes have the errors of box.Check.
func badBoxes() map[api.Box]api.Errno {
	bad := map[api.Box]api.Errno{
		{}: api.ErrInvalid, bx(0, 0, 0, 1, 1, 0): api.ErrInvalid, bx(3, 0, 0, 2, 1, 1): api.ErrInvalid, bx(top, top, top, -top, -top, -top): api.ErrInvalid,
	}
	for _, n := range []int{top + 1, -top - 1, math.MaxInt, math.MinInt} {
		bad[bx(n, 0, 0, 1, 1, 1)], bad[bx(0, 0, 0, 1, n, 1)], bad[bx(0, 0, n, 0, 0, n)] = api.ErrRange, api.ErrRange, api.ErrRange
	}
	return bad
}

// farPoints have a coordinate that is not in range.
func farPoints() []api.Vec {
	var list []api.Vec
	for _, n := range []int{top + 1, -top - 1, math.MaxInt, math.MinInt, 1 << 33} {
		list = append(list, vec(n, 0, 0), vec(0, n, 0), vec(0, 0, n), vec(n, n, n))
	}
	return list
}

// smallHalves are all valid half-spaces with coefficients from -n to n and D from -d to d.
func smallHalves(n int, d int64) []api.Half {
	var list []api.Half
	for a := -n; a <= n; a++ {
		for b := -n; b <= n; b++ {
			for c := -n; c <= n; c++ {
				for at := -d; at <= d; at++ {
					if h := half(a, b, c, at); plane.Check(h) == api.OK {
						list = append(list, h)
					}
				}
			}
		}
	}
	return list
}

// value is that of the definition.
func value(h api.Half, p api.Vec) int64 {
	return int64(h.A)*int64(p.X) + int64(h.B)*int64(p.Y) + int64(h.C)*int64(p.Z) - h.D
}

func slowCheck(h api.Half) api.Errno {
	far := func(n, end int) bool { return n < -end || n > end }
	switch {
	case far(h.A, most), far(h.B, most), far(h.C, most), far(int(h.D), topD):
		return api.ErrRange
	case h.A == 0 && h.B == 0 && h.C == 0:
		return api.ErrInvalid
	}
	return api.OK
}

// grid has the points with coordinates from -n to n, those near the middle first.
func grid(n int) []api.Vec {
	var list []api.Vec
	for far := range n + 1 {
		for x := -far; x <= far; x++ {
			for y := -far; y <= far; y++ {
				for z := -far; z <= far; z++ {
					if max(x, -x, y, -y, z, -z) == far {
						list = append(list, vec(x, y, z))
					}
				}
			}
		}
	}
	return list
}

func TestSignatures(t *testing.T) {
	var (
		_ func(api.Half) api.Errno                                              = plane.Check
		_ func(api.Half, api.Vec) (int64, api.Errno)                            = plane.Value
		_ func(api.Half, api.Box) (least, greatest int64, e api.Errno)          = plane.Extremes
		_ func(api.Half, api.Box) (int, api.Errno)                              = plane.Side
		_ func(api.Half) (api.Half, api.Errno)                                  = plane.Normal
		_ func(a, b api.Half) (bool, api.Errno)                                 = plane.Equal
		_ func(a, b api.Half) (bool, api.Errno)                                 = plane.Within
		_ func(api.Half, api.Box) (api.Box, api.Errno)                          = plane.Hull
		_ func(h api.Half, b api.Box, direction, most int) (t int, e api.Errno) = plane.Depth
	)
	if plane.Inside != 1 || plane.Outside != 2 || plane.Across != 3 {
		t.Errorf("Inside is %d, Outside %d, Across %d", plane.Inside, plane.Outside, plane.Across)
	}
}

// wantErrors calls all functions with a half-space, or with two, and a point, a box, a direction and a distance.
func wantErrors(t *testing.T, h, other api.Half, p api.Vec, b api.Box, direction int, want api.Errno) {
	t.Helper()
	wrong := func(name string, e api.Errno, zero bool) {
		t.Helper()
		if e != want || !zero {
			t.Errorf("%s of %v: %d (other results zero: %v), not %d", name, h, e, zero, want)
		}
	}
	wrong("Check", plane.Check(h), true)
	n, e := plane.Value(h, p)
	wrong("Value", e, n == 0)
	least, greatest, e := plane.Extremes(h, b)
	wrong("Extremes", e, least == 0 && greatest == 0)
	side, e := plane.Side(h, b)
	wrong("Side", e, side == 0)
	normal, e := plane.Normal(h)
	wrong("Normal", e, normal == api.Half{})
	is, e := plane.Equal(h, other)
	wrong("Equal", e, !is)
	is, e = plane.Within(h, other)
	wrong("Within", e, !is)
	hull, e := plane.Hull(h, b)
	wrong("Hull", e, hull == api.Box{})
	depth, e := plane.Depth(h, b, direction, direction)
	wrong("Depth", e, depth == 0)
}

func TestErrorsOfHalfSpaces(t *testing.T) {
	for h, want := range badHalves() {
		wantErrors(t, h, slope, vec(0, 0, 0), unit, 0, want)
		wantErrors(t, h, half(0, 0, 0, 0), vec(top+1, 0, 0), bx(top+1, 0, 0, 0, 0, 0), -1, want)
		wantErrors(t, h, half(most+1, 0, 0, 0), vec(0, math.MinInt, 0), api.Box{}, 6, want)
		for _, good := range []api.Half{slope, half(-most, most, 0, topD)} {
			if is, e := plane.Equal(good, h); is || e != want {
				t.Errorf("Equal of %v and %v: %v, %d", good, h, is, e)
			}
			if is, e := plane.Within(good, h); is || e != want {
				t.Errorf("Within of %v and %v: %v, %d", good, h, is, e)
			}
		}
	}
}

func TestEndsOfHalfSpaces(t *testing.T) {
	for _, n := range []int{most, -most, 1, -1} {
		for _, d := range []int64{topD, -topD, 0} {
			for _, h := range []api.Half{half(n, 0, 0, d), half(0, n, 0, d), half(0, 0, n, d), half(n, -n, n, d), half(n, n, 0, d)} {
				if e := plane.Check(h); e != api.OK {
					t.Errorf("Check of %v: %d", h, e)
				}
			}
		}
	}
}

func TestValue(t *testing.T) {
	for _, c := range []struct {
		h    api.Half
		p    api.Vec
		want int64
	}{
		{slope, vec(0, 0, 0), -10}, {slope, vec(4, 1, 3), 0}, {slope, vec(5, 9, 3), 1}, {half(-3, 5, 7, -2), vec(10, 20, -30), -30 + 100 - 210 + 2},
		{half(most, most, most, -topD), vec(top, top, top), 7e9}, {half(most, -most, most, topD), vec(-top, top, -top), -7e9}, {half(most, 0, -most, topD), vec(top, -top, -top), -2e9},
		{half(0, 0, 1, topD), vec(top, top, -top), -topD - top}, {half(0, -most, 0, 0), vec(5, top, 5), -1e9},
	} {
		if n, e := plane.Value(c.h, c.p); n != c.want || e != api.OK {
			t.Errorf("Value of %v and %v: %d, %d", c.h, c.p, n, e)
		}
	}
	for _, p := range farPoints() {
		for _, h := range []api.Half{slope, half(most, most, most, -topD)} {
			if n, e := plane.Value(h, p); n != 0 || e != api.ErrRange {
				t.Errorf("Value of %v and %v: %d, %d", h, p, n, e)
			}
		}
	}
	points := grid(2)
	for _, h := range smallHalves(2, 2) {
		for _, p := range points {
			if n, e := plane.Value(h, p); n != value(h, p) || e != api.OK {
				t.Errorf("Value of %v and %v: %d, %d", h, p, n, e)
			}
		}
	}
}

func TestNormal(t *testing.T) {
	for _, c := range []struct{ h, want api.Half }{
		{half(2, 0, 4, 7), half(1, 0, 2, 3)}, {half(2, 0, 4, -7), half(1, 0, 2, -4)}, {half(2, 0, 4, -8), half(1, 0, 2, -4)}, {half(2, 0, 4, 8), half(1, 0, 2, 4)}, {half(2, 0, 4, -1), half(1, 0, 2, -1)},
		{half(-6, 9, -12, 0), half(-2, 3, -4, 0)}, {half(0, -5, 0, 14), half(0, -1, 0, 2)}, {half(0, -5, 0, -14), half(0, -1, 0, -3)}, {slope, slope}, {half(7, 11, 13, -5), half(7, 11, 13, -5)},
		{half(most, 0, 0, topD), half(1, 0, 0, 4000000)}, {half(most, -most, most, -topD), half(1, -1, 1, -4000000)}, {half(-most, 0, 0, 1-topD), half(-1, 0, 0, -4000000)}, {half(0, 0, -most, topD-1), half(0, 0, -1, 3999999)},
		{half(most, most-1, 0, topD), half(most, most-1, 0, topD)}, {half(999, 333, 666, -topD), half(3, 1, 2, -12012013)}, {half(0, -most, 600, 399), half(0, -5, 3, 1)},
	} {
		if h, e := plane.Normal(c.h); h != c.want || e != api.OK {
			t.Errorf("Normal of %v: %v, %d", c.h, h, e)
		}
	}
}

// TestNormalForms has the properties of normal forms, and those that define them.
func TestNormalForms(t *testing.T) {
	random := rand.New(rand.NewSource(71))
	list := smallHalves(4, 5)
	for range 2000 {
		list = append(list, half(12*random.Intn(83), 12*(random.Intn(167)-83), 6*random.Intn(166)+6, random.Int63n(2*topD)-topD))
	}
	points := grid(3)
	for _, h := range list {
		n, e := plane.Normal(h)
		if e != api.OK {
			t.Fatalf("Normal of %v: %d", h, e)
		}
		for factor := 2; factor <= most; factor++ {
			if n.A%factor == 0 && n.B%factor == 0 && n.C%factor == 0 {
				t.Errorf("Normal of %v: %v has the factor %d", h, n, factor)
			}
		}
		factor := max((h.A*n.A+h.B*n.B+h.C*n.C)/(n.A*n.A+n.B*n.B+n.C*n.C), 1)
		if n.A*factor != h.A || n.B*factor != h.B || n.C*factor != h.C || n.D*int64(factor) > h.D || (n.D+1)*int64(factor) <= h.D {
			t.Errorf("Normal of %v: %v", h, n)
		}
		if again, e := plane.Normal(n); again != n || e != api.OK {
			t.Errorf("Normal of %v: %v, %d", n, again, e)
		}
		if is, e := plane.Equal(h, n); !is || e != api.OK {
			t.Errorf("Equal of %v and %v: %v, %d", h, n, is, e)
		}
		for _, p := range points {
			if (value(h, p) <= 0) != (value(n, p) <= 0) {
				t.Errorf("%v lies in only one of %v and %v", p, h, n)
			}
		}
	}
}

func wantWithin(t *testing.T, a, b api.Half, within, back bool) {
	t.Helper()
	if is, e := plane.Within(a, b); is != within || e != api.OK {
		t.Errorf("Within of %v and %v: %v, %d", a, b, is, e)
	}
	if is, e := plane.Within(b, a); is != back || e != api.OK {
		t.Errorf("Within of %v and %v: %v, %d", b, a, is, e)
	}
	for _, c := range [][2]api.Half{{a, b}, {b, a}} {
		if is, e := plane.Equal(c[0], c[1]); is != (within && back) || e != api.OK {
			t.Errorf("Equal of %v and %v: %v, %d", c[0], c[1], is, e)
		}
	}
}

func TestWithinAndEqual(t *testing.T) {
	for _, c := range []struct {
		a, b         api.Half
		within, back bool
	}{
		{slope, slope, true, true}, {half(2, 0, 4, 7), half(1, 0, 2, 3), true, true}, {half(2, 0, 4, 7), half(3, 0, 6, 11), true, true}, {half(2, 0, 4, 7), half(3, 0, 6, 12), true, false},
		{half(1, 0, 2, -3), half(2, 0, 4, -5), true, true}, {half(1, 0, 2, -3), half(2, 0, 4, -7), false, true}, {half(1, 0, 0, 1), half(-1, 0, 0, -1), false, false}, {half(1, 2, 3, 0), half(-1, -2, -3, 0), false, false},
		{half(1, 0, 0, -topD), half(0, 1, 0, topD), false, false},
		// Far beyond the coordinates of the quarry, there are points of the first half-space that are none of the second one.
		{half(1, 0, 0, 0), half(most, 1, 0, topD), false, false}, {half(most, most-1, 0, -topD), half(most-1, most, 0, topD), false, false}, {half(1, 0, 0, -topD), half(most, 0, 1, topD), false, false},
		{half(1, 0, 0, 4000000), half(most, 0, 0, topD), true, true}, {half(1, 0, 0, 4000000), half(most, 0, 0, topD-1), false, true}, {half(most, 0, 0, topD-most), half(most, 0, 0, topD-1), true, true},
		{half(most, most, -most, -topD), half(1, 1, -1, topD), true, false}, {half(most, most, -most, -topD), half(1, 1, -1, -4000000), true, true}, {half(most, most, -most, 1-topD), half(1, 1, -1, -4000000), true, true},
		{half(0, most, -most, -topD), half(0, most, -most, topD), true, false}, {half(0, 0, -most, 999), half(0, 0, -1, 0), true, true}, {half(0, 0, -most, -1), half(0, 0, -1, -1), true, true},
	} {
		wantWithin(t, c.a, c.b, c.within, c.back)
	}
}

func TestWithinAgainstPoints(t *testing.T) {
	random := rand.New(rand.NewSource(72))
	points := grid(14)
	slowWithin := func(a, b api.Half) bool {
		for _, p := range points {
			if value(a, p) <= 0 && value(b, p) > 0 {
				return false
			}
		}
		return true
	}
	halves := smallHalves(2, 4)
	seen := map[[2]bool]int{}
	for range 6000 {
		a, b := halves[random.Intn(len(halves))], halves[random.Intn(len(halves))]
		if times := random.Intn(4); times > 0 {
			b = half(times*a.A, times*a.B, times*a.C, random.Int63n(25)-12)
		}
		within, back := slowWithin(a, b), slowWithin(b, a)
		wantWithin(t, a, b, within, back)
		seen[[2]bool{within, back}]++
	}
	if len(seen) != 4 {
		t.Errorf("kinds of pairs: %v", seen)
	}
}

func TestWithinIsTransitive(t *testing.T) {
	var chains int
	for _, halves := range [][]api.Half{smallHalves(1, 1), {half(1, 2, 0, 3), half(2, 4, 0, 5), half(2, 4, 0, 7), half(500, most, 0, 1999), half(3, 6, 0, 6), half(-1, 2, 0, 3), half(3, 6, 0, 12)}} {
		for _, a := range halves {
			for _, b := range halves {
				for _, c := range halves {
					first, e1 := plane.Within(a, b)
					second, e2 := plane.Within(b, c)
					both, e3 := plane.Within(a, c)
					if e1 != api.OK || e2 != api.OK || e3 != api.OK || first && second && !both {
						t.Errorf("Within of %v, %v and %v: %v, %v, %v", a, b, c, first, second, both)
					}
					if first && second && a != b && b != c {
						chains++
					}
				}
			}
		}
	}
	if chains < 50 {
		t.Errorf("%d chains", chains)
	}
}

// TestAllArguments calls the functions with numbers of all sizes.
func TestAllArguments(t *testing.T) {
	random := rand.New(rand.NewSource(73))
	number := func() int {
		some := []int{0, 1, -1, 2, 5, 6, most, -most, most + 1, top, -top, top + 1, topD, -topD, topD + 1, math.MaxInt, math.MinInt}
		return some[random.Intn(len(some))]
	}
	for range 20000 {
		h, p := half(number(), number(), number(), int64(number())), vec(number(), number(), number())
		b := api.Box{Min: p, Max: vec(number(), number(), number())}
		direction, far := number(), number()
		ofHalf, ofBox := plane.Check(h), box.Check(b)
		if ofHalf != slowCheck(h) {
			t.Errorf("Check of %v: %d", h, ofHalf)
		}
		if _, e := plane.Value(h, p); ofHalf != api.OK && e != ofHalf {
			t.Errorf("Value of %v: %d", h, e)
		}
		want := ofHalf
		if want == api.OK {
			want = ofBox
		}
		if _, e := plane.Side(h, b); e != want {
			t.Errorf("Side of %v and %v: %d", h, b, e)
		}
		if _, _, e := plane.Extremes(h, b); e != want {
			t.Errorf("Extremes of %v and %v: %d", h, b, e)
		}
		if c, e := plane.Hull(h, b); e != want && e != api.ErrNone || e == api.OK && !box.Inside(c, b) {
			t.Errorf("Hull of %v and %v: %v, %d", h, b, c, e)
		}
		if n, e := plane.Depth(h, b, direction, far); want != api.OK && e != want || e == api.OK && (n < 0 || n > far) {
			t.Errorf("Depth of %v and %v: %d, %d", h, b, n, e)
		}
	}
}
