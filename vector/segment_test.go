package vector_test

import (
	"math"
	"math/big"
	"math/rand"
	"testing"

	"gangsaw/api"
	"gangsaw/vector"
)

func at(x, y int) api.Point {
	return api.Point{X: x, Y: y}
}

// grid has the points with coordinates from 0 to n - 1.
func grid(n int) []api.Point {
	var list []api.Point
	for x := range n {
		for y := range n {
			list = append(list, at(x, y))
		}
	}
	return list
}

// line is a condition on t, from 0 to 1, along a segment: from + step t is at least 0.
type line struct {
	from, step int
}

// common counts the numbers t from 0 to 1 that all conditions allow: 0, 1, or 2 for more.
func common(conditions []line) int {
	low, high := big.NewRat(0, 1), big.NewRat(1, 1)
	for _, c := range conditions {
		if c.step == 0 {
			if c.from < 0 {
				return 0
			}
			continue
		}
		zero := big.NewRat(int64(-c.from), int64(c.step))
		if c.step > 0 && zero.Cmp(low) > 0 {
			low = zero
		}
		if c.step < 0 && zero.Cmp(high) < 0 {
			high = zero
		}
	}
	return max(1-low.Cmp(high), 0)
}

// slowMeet cuts the segment from a to b at the edges of the one from c to d.
func slowMeet(a, b, c, d api.Point) int {
	var conditions []line
	atLeast := func(from, step int) { conditions = append(conditions, line{from, step}) }
	exactly := func(from, step int) {
		atLeast(from, step)
		atLeast(-from, -step)
	}
	dx, dy := d.X-c.X, d.Y-c.Y
	if dx == 0 && dy == 0 {
		exactly(a.X-c.X, b.X-a.X)
		exactly(a.Y-c.Y, b.Y-a.Y)
	}
	exactly(dx*(a.Y-c.Y)-dy*(a.X-c.X), dx*(b.Y-a.Y)-dy*(b.X-a.X))
	along, step := dx*(a.X-c.X)+dy*(a.Y-c.Y), dx*(b.X-a.X)+dy*(b.Y-a.Y)
	atLeast(along, step)
	atLeast(dx*dx+dy*dy-along, -step)
	n := common(conditions)
	if a == b {
		return min(n, 1)
	}
	return n
}

func wantMeet(t *testing.T, a, b, c, d api.Point, want int) {
	t.Helper()
	for _, p := range [][4]api.Point{{a, b, c, d}, {b, a, c, d}, {a, b, d, c}, {b, a, d, c}, {c, d, a, b}, {d, c, a, b}, {c, d, b, a}, {d, c, b, a}} {
		if n, e := vector.Meet(p[0], p[1], p[2], p[3]); n != want || e != api.OK {
			t.Errorf("Meet of %v: %d, %d, not %d", p, n, e, want)
		}
	}
}

func wantOn(t *testing.T, a, b, p api.Point, want bool) {
	t.Helper()
	for _, ends := range [][2]api.Point{{a, b}, {b, a}} {
		if is, e := vector.On(ends[0], ends[1], p); is != want || e != api.OK {
			t.Errorf("On of %v and %v: %v, %d", ends, p, is, e)
		}
	}
}

func TestSegmentsOutOfRange(t *testing.T) {
	for _, far := range []api.Point{at(top+1, 0), at(0, top+1), at(-top-1, 0), at(0, -top-1), at(math.MaxInt, 0), at(0, math.MinInt), at(math.MinInt, math.MaxInt)} {
		for i := range 4 {
			p := [4]api.Point{at(0, 0), at(1, 0), at(0, 1), at(1, 1)}
			p[i] = far
			if n, e := vector.Meet(p[0], p[1], p[2], p[3]); n != 0 || e != api.ErrRange {
				t.Errorf("Meet of %v: %d, %d", p, n, e)
			}
			if i == 3 {
				continue
			}
			if n, e := vector.Turn(p[0], p[1], p[2]); n != 0 || e != api.ErrRange {
				t.Errorf("Turn of %v: %d, %d", p, n, e)
			}
			if is, e := vector.On(p[0], p[1], p[2]); is || e != api.ErrRange {
				t.Errorf("On of %v: %v, %d", p, is, e)
			}
		}
		if is, e := vector.On(far, far, far); is || e != api.ErrRange {
			t.Errorf("On of %v: %v, %d", far, is, e)
		}
		if n, e := vector.Meet(far, far, far, far); n != 0 || e != api.ErrRange {
			t.Errorf("Meet of %v: %d, %d", far, n, e)
		}
	}
}

func TestTurn(t *testing.T) {
	for _, c := range []struct {
		a, b, c api.Point
		want    int
	}{
		{at(0, 0), at(10, 0), at(5, 1), 1}, {at(0, 0), at(10, 0), at(5, -1), -1}, {at(0, 0), at(10, 0), at(99, 0), 0}, {at(3, 3), at(3, 3), at(4, 9), 0},
		{at(-top, -top), at(top, top), at(0, 1), 1}, {at(-top, -top), at(top, top), at(1, 0), -1}, {at(-top, -top), at(top, top), at(0, 0), 0},
		{at(-top, -top), at(top, -top), at(-top, top), 1}, {at(-top, -top), at(-top, top), at(top, -top), -1},
		{at(-top, -top), at(top, top-1), at(top-1, top-2), -1}, {at(-top, -top), at(top, top-1), at(top-1, top-1), 1},
	} {
		for _, p := range [][3]api.Point{{c.a, c.b, c.c}, {c.b, c.c, c.a}, {c.c, c.a, c.b}} {
			if n, e := vector.Turn(p[0], p[1], p[2]); n != c.want || e != api.OK {
				t.Errorf("Turn of %v: %d, %d, not %d", p, n, e, c.want)
			}
			if n, e := vector.Turn(p[1], p[0], p[2]); n != -c.want || e != api.OK {
				t.Errorf("Turn of %v, the first two exchanged: %d, %d, not %d", p, n, e, -c.want)
			}
		}
	}
}

func TestTurnAgainstAreas(t *testing.T) {
	points := grid(4)
	for _, a := range points {
		for _, b := range points {
			for _, c := range points {
				area := (b.X-a.X)*(c.Y-a.Y) - (b.Y-a.Y)*(c.X-a.X)
				n, e := vector.Turn(a, b, c)
				if e != api.OK || n < -1 || n > 1 || (n > 0) != (area > 0) || (n < 0) != (area < 0) {
					t.Errorf("Turn of %v, %v, %v: %d, %d", a, b, c, n, e)
				}
			}
		}
	}
}

func TestOn(t *testing.T) {
	wantOn(t, at(0, 0), at(10, 0), at(5, 0), true)
	wantOn(t, at(0, 0), at(10, 0), at(11, 0), false)
	wantOn(t, at(0, 0), at(10, 0), at(-1, 0), false)
	wantOn(t, at(0, 0), at(10, 0), at(10, 0), true)
	wantOn(t, at(0, 0), at(10, 0), at(0, 0), true)
	wantOn(t, at(0, 0), at(10, 0), at(5, 1), false)
	wantOn(t, at(3, 0), at(3, 9), at(3, 9), true)
	wantOn(t, at(3, 0), at(3, 9), at(3, 10), false)
	wantOn(t, at(3, 3), at(3, 3), at(3, 3), true)
	wantOn(t, at(3, 3), at(3, 3), at(3, 4), false)
	wantOn(t, at(-top, -top), at(top, top), at(1-top, 1-top), true)
	wantOn(t, at(-top, -top), at(top, top), at(1-top, 2-top), false)
	wantOn(t, at(-top, -top), at(top, top-1), at(0, 0), false)
	wantOn(t, at(-top, top), at(-top, -top), at(-top, 0), true)
}

func TestOnIsMeetOfAPoint(t *testing.T) {
	points := grid(5)
	for _, a := range points {
		for _, b := range points {
			for _, p := range points {
				away := (p.X-a.X)*(p.X-b.X) + (p.Y-a.Y)*(p.Y-b.Y)
				is := (b.X-a.X)*(p.Y-a.Y) == (b.Y-a.Y)*(p.X-a.X) && away <= 0
				if got, e := vector.On(a, b, p); got != is || e != api.OK {
					t.Errorf("On of %v, %v, %v: %v, %d", a, b, p, got, e)
				}
				n, e := vector.Meet(a, b, p, p)
				if n == 1 != is || n > 1 || e != api.OK {
					t.Errorf("Meet of %v, %v and %v: %d, %d", a, b, p, n, e)
				}
			}
		}
	}
}

func TestMeet(t *testing.T) {
	wantMeet(t, at(0, 0), at(10, 10), at(0, 10), at(10, 0), 1)
	wantMeet(t, at(0, 0), at(10, 0), at(5, 0), at(20, 0), 2)
	wantMeet(t, at(0, 0), at(5, 0), at(5, 0), at(9, 0), 1)
	wantMeet(t, at(0, 0), at(5, 0), at(6, 0), at(9, 0), 0)
	wantMeet(t, at(0, 0), at(5, 0), at(0, 0), at(5, 0), 2)
	wantMeet(t, at(0, 0), at(9, 9), at(3, 3), at(4, 4), 2)
	wantMeet(t, at(0, 0), at(0, 9), at(0, 9), at(0, 12), 1)
	wantMeet(t, at(0, 0), at(0, 9), at(0, 10), at(0, 12), 0)
	wantMeet(t, at(0, 0), at(9, 0), at(0, 1), at(9, 1), 0)
	wantMeet(t, at(0, 0), at(9, 0), at(4, 0), at(4, 5), 1)
	wantMeet(t, at(0, 0), at(9, 0), at(4, 1), at(4, 5), 0)
	wantMeet(t, at(0, 0), at(9, 0), at(10, -1), at(10, 1), 0)
	wantMeet(t, at(0, 0), at(1, 1), at(0, 1), at(1, 0), 1)
	wantMeet(t, at(2, 2), at(2, 2), at(2, 2), at(2, 2), 1)
	wantMeet(t, at(2, 2), at(2, 2), at(2, 3), at(2, 3), 0)
	wantMeet(t, at(2, 2), at(2, 2), at(0, 0), at(4, 4), 1)
	wantMeet(t, at(2, 2), at(2, 2), at(3, 3), at(4, 4), 0)
	wantMeet(t, at(2, 2), at(2, 2), at(0, 0), at(4, 5), 0)
	wantMeet(t, at(-top, -top), at(top, top), at(-top, top), at(top, -top), 1)
	wantMeet(t, at(-top, -top), at(top, top-1), at(-top, 1-top), at(top, top), 0)
	wantMeet(t, at(-top, -top), at(top, top), at(top-1, top-1), at(top, top), 2)
	wantMeet(t, at(-top, -top), at(top, top), at(top, top), at(top, -top), 1)
	wantMeet(t, at(-top, -top), at(top, top-1), at(0, 0), at(1, 1), 0)
	wantMeet(t, at(-top, -top), at(top, top-1), at(0, 0), at(0, -1), 1)
}

func TestMeetAgainstSlowMeet(t *testing.T) {
	points := grid(4)
	for _, a := range points {
		for _, b := range points {
			for _, c := range points {
				for _, d := range points {
					want := slowMeet(a, b, c, d)
					if n, e := vector.Meet(a, b, c, d); n != want || e != api.OK {
						t.Errorf("Meet of %v, %v, %v, %v: %d, %d, not %d", a, b, c, d, n, e, want)
					}
				}
			}
		}
	}
	random := rand.New(rand.NewSource(4))
	for _, bound := range []int{9, 30, top} {
		for range 4000 {
			any := func() api.Point { return at(random.Intn(2*bound+1)-bound, random.Intn(2*bound+1)-bound) }
			a, b, c, d := any(), any(), any(), any()
			wantMeet(t, a, b, c, d, slowMeet(a, b, c, d))
		}
	}
}

// TestMeetOnLongLines has segments of one line through a point with far ends, so that nearly all numbers are great.
func TestMeetOnLongLines(t *testing.T) {
	for _, step := range []api.Point{at(1, 0), at(0, 1), at(3, 7), at(-99991, 99989), at(100000, -1)} {
		point := func(n int) api.Point { return at(n*step.X, n*step.Y) }
		for from := -5; from <= 5; from++ {
			for to := -5; to <= 5; to++ {
				low, high := max(min(from, to), -2), min(max(from, to), 3)
				want := 2
				if low > high {
					want = 0
				} else if low == high {
					want = 1
				}
				wantMeet(t, point(from), point(to), point(-2), point(3), want)
			}
		}
	}
}
