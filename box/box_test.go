package box_test

import (
	"math"
	"math/rand"
	"slices"
	"testing"

	"gangsaw/api"
	"gangsaw/box"
)

const top = api.MaxCoord

func vec(x, y, z int) api.Vec {
	return api.Vec{X: x, Y: y, Z: z}
}

// bx returns the box from the first three numbers to the last three.
func bx(x, y, z, toX, toY, toZ int) api.Box {
	return api.Box{Min: vec(x, y, z), Max: vec(toX, toY, toZ)}
}

var (
	whole = bx(-top, -top, -top, top, top, top)
	unit  = bx(0, 0, 0, 1, 1, 1)
	cube  = bx(0, 0, 0, 4, 4, 4)
)

// outOfRange has boxes with a coordinate that is not allowed, some of them empty, too.
func outOfRange() []api.Box {
	var list []api.Box
	for _, n := range []int{top + 1, -top - 1, math.MaxInt, math.MinInt, math.MinInt + top, 1 << 33, -1 << 32} {
		list = append(list,
			bx(n, 0, 0, 1, 1, 1), bx(0, n, 0, 1, 1, 1), bx(0, 0, n, 1, 1, 1), bx(0, 0, 0, n, 1, 1), bx(0, 0, 0, 1, n, 1), bx(0, 0, 0, 1, 1, n),
			bx(n, n, n, n, n, n), bx(5, 0, 0, 5, 1, n), bx(n, 3, 0, 1, 2, 1))
	}
	return list
}

// empties have no points, though their coordinates are allowed.
var empties = []api.Box{
	{}, bx(1, 1, 1, 1, 1, 1), bx(0, 0, 0, 0, 1, 1), bx(0, 0, 0, 1, 0, 1), bx(0, 0, 0, 1, 1, 0), bx(3, 0, 0, 2, 1, 1), bx(0, 3, 0, 1, 2, 1), bx(0, 0, 3, 1, 1, 2),
	bx(top, top, top, -top, -top, -top), bx(-top, -top, top, top, top, top), bx(2, 2, 2, 1, 1, 1),
}

// smallBoxes are all valid boxes with coordinates from 0 to n.
func smallBoxes(n int) []api.Box {
	var list []api.Box
	for i := range (n + 1) * (n + 1) * (n + 1) {
		for k := range (n + 1) * (n + 1) * (n + 1) {
			b := bx(i%(n+1), i/(n+1)%(n+1), i/(n+1)/(n+1), k%(n+1), k/(n+1)%(n+1), k/(n+1)/(n+1))
			if box.Check(b) == api.OK {
				list = append(list, b)
			}
		}
	}
	return list
}

// looseBoxes have numbers from -1 to 2 as coordinates; most of them are empty.
func looseBoxes(random *rand.Rand, n int) []api.Box {
	var list []api.Box
	for range n {
		c := func() int { return random.Intn(4) - 1 }
		list = append(list, bx(c(), c(), c(), c(), c(), c()))
	}
	return list
}

// points has the points of a box, by z, then y, then x.
func points(b api.Box) []api.Vec {
	var list []api.Vec
	for z := b.Min.Z; z < b.Max.Z; z++ {
		for y := b.Min.Y; y < b.Max.Y; y++ {
			for x := b.Min.X; x < b.Max.X; x++ {
				list = append(list, vec(x, y, z))
			}
		}
	}
	return list
}

// numbers has those of a range.
func numbers(from, to int) []int {
	var list []int
	for n := from; n < to; n++ {
		list = append(list, n)
	}
	return list
}

func meets(from, to, otherFrom, otherTo int) bool {
	return slices.ContainsFunc(numbers(from, to), func(n int) bool { return slices.Contains(numbers(otherFrom, otherTo), n) })
}

// slowTouch goes through the six directions.
func slowTouch(a, b api.Box) (int, api.Errno) {
	x := meets(a.Min.X, a.Max.X, b.Min.X, b.Max.X)
	y := meets(a.Min.Y, a.Max.Y, b.Min.Y, b.Max.Y)
	z := meets(a.Min.Z, a.Max.Z, b.Min.Z, b.Max.Z)
	switch {
	case b.Min.X == a.Max.X && y && z:
		return api.PlusX, api.OK
	case b.Max.X == a.Min.X && y && z:
		return api.MinusX, api.OK
	case b.Min.Y == a.Max.Y && x && z:
		return api.PlusY, api.OK
	case b.Max.Y == a.Min.Y && x && z:
		return api.MinusY, api.OK
	case b.Min.Z == a.Max.Z && x && y:
		return api.PlusZ, api.OK
	case b.Max.Z == a.Min.Z && x && y:
		return api.MinusZ, api.OK
	}
	return 0, api.ErrNone
}

// ofTwo has the functions of two boxes; each tells its error, and whether its other results are zero values.
func ofTwo() map[string]func(a, b api.Box) (api.Errno, bool) {
	return map[string]func(a, b api.Box) (api.Errno, bool){
		"Touch": func(a, b api.Box) (api.Errno, bool) {
			d, e := box.Touch(a, b)
			return e, d == 0
		},
		"Intersect": func(a, b api.Box) (api.Errno, bool) {
			c, e := box.Intersect(a, b)
			return e, c == api.Box{}
		},
		"Hull": func(a, b api.Box) (api.Errno, bool) {
			c, e := box.Hull(a, b)
			return e, c == api.Box{}
		},
		"Subtract": func(a, b api.Box) (api.Errno, bool) {
			list, e := box.Subtract(a, b)
			return e, len(list) == 0
		},
	}
}

func TestSignatures(t *testing.T) {
	var (
		_ func(api.Box) api.Errno                          = box.Check
		_ func(api.Box) api.Vec                            = box.Size
		_ func(api.Box) (int64, api.Errno)                 = box.Volume
		_ func(api.Box, api.Vec) bool                      = box.Has
		_ func(inner, outer api.Box) bool                  = box.Inside
		_ func(a, b api.Box) bool                          = box.Overlap
		_ func(a, b api.Box) (int, api.Errno)              = box.Touch
		_ func(a, b api.Box) (api.Box, api.Errno)          = box.Intersect
		_ func(a, b api.Box) (api.Box, api.Errno)          = box.Hull
		_ func(api.Box, api.Vec) (api.Box, api.Errno)      = box.Move
		_ func(a, b api.Box) ([]api.Box, api.Errno)        = box.Subtract
		_ func(api.Box, []api.Box) ([]api.Box, api.Errno)  = box.Rest
		_ func(api.Box, []api.Box) (api.Vec, api.Errno)    = box.Gap
		_ func([]api.Box) (int64, api.Errno)               = box.Total
		_ func([]api.Box) (first, second int, e api.Errno) = box.Clash
		_ func(api.Box, []api.Box) api.Errno               = box.Partition
	)
	if box.MaxBoxes != 256 || box.MaxPieces != 4096 {
		t.Errorf("MaxBoxes is %d, MaxPieces %d", box.MaxBoxes, box.MaxPieces)
	}
}

func TestErrorsOfOneBox(t *testing.T) {
	wantError := func(b api.Box, want api.Errno) {
		t.Helper()
		if e := box.Check(b); e != want {
			t.Errorf("Check of %v: %d, not %d", b, e, want)
		}
		if n, e := box.Volume(b); n != 0 || e != want {
			t.Errorf("Volume of %v: %d, %d, not %d", b, n, e, want)
		}
		for _, by := range []api.Vec{{}, vec(1, 2, 3), vec(math.MaxInt, 0, math.MinInt), vec(2*top, 0, 0)} {
			if c, e := box.Move(b, by); c != (api.Box{}) || e != want {
				t.Errorf("Move of %v by %v: %v, %d, not %d", b, by, c, e, want)
			}
		}
	}
	for _, b := range outOfRange() {
		wantError(b, api.ErrRange)
	}
	for _, b := range empties {
		wantError(b, api.ErrInvalid)
	}
}

func TestErrorsOfTwoBoxes(t *testing.T) {
	for name, call := range ofTwo() {
		wantError := func(a, b api.Box, want api.Errno) {
			t.Helper()
			if e, zero := call(a, b); e != want || !zero {
				t.Errorf("%s of %v and %v: %d (other results zero: %v), not %d", name, a, b, e, zero, want)
			}
		}
		for _, far := range outOfRange() {
			wantError(far, unit, api.ErrRange)
			wantError(unit, far, api.ErrRange)
			wantError(far, empties[1], api.ErrRange)
			wantError(empties[1], far, api.ErrInvalid)
		}
		for _, b := range empties {
			wantError(b, unit, api.ErrInvalid)
			wantError(unit, b, api.ErrInvalid)
			wantError(whole, b, api.ErrInvalid)
			wantError(b, b, api.ErrInvalid)
		}
	}
}

func TestSizeAndVolume(t *testing.T) {
	for _, c := range []struct {
		b      api.Box
		size   api.Vec
		volume int64
	}{
		{unit, vec(1, 1, 1), 1}, {cube, vec(4, 4, 4), 64}, {bx(-3, 2, 10, 4, 5, 11), vec(7, 3, 1), 21}, {whole, vec(2*top, 2*top, 2*top), 8e18},
		{bx(-top, -top, -top, top, top, top-1), vec(2*top, 2*top, 2*top-1), 8e18 - 4e12}, {bx(top-1, top-1, -top, top, top, top), vec(1, 1, 2*top), 2 * top},
	} {
		if v := box.Size(c.b); v != c.size {
			t.Errorf("Size of %v: %v", c.b, v)
		}
		if n, e := box.Volume(c.b); n != c.volume || e != api.OK {
			t.Errorf("Volume of %v: %d, %d", c.b, n, e)
		}
		if e := box.Check(c.b); e != api.OK {
			t.Errorf("Check of %v: %d", c.b, e)
		}
	}
	for _, c := range []struct {
		b    api.Box
		size api.Vec
	}{
		{api.Box{}, vec(0, 0, 0)}, {bx(5, 7, 9, 4, 4, 4), vec(-1, -3, -5)}, {bx(0, 0, 0, math.MaxInt, math.MinInt, 3*top), vec(math.MaxInt, math.MinInt, 3*top)},
		{bx(math.MaxInt, -1, 1, math.MaxInt, math.MaxInt-1, -math.MaxInt), vec(0, math.MaxInt, math.MinInt)},
	} {
		if v := box.Size(c.b); v != c.size {
			t.Errorf("Size of %v: %v", c.b, v)
		}
	}
	for _, b := range smallBoxes(3) {
		if n, e := box.Volume(b); n != int64(len(points(b))) || e != api.OK {
			t.Errorf("Volume of %v: %d, %d", b, n, e)
		}
	}
}

func TestHas(t *testing.T) {
	random := rand.New(rand.NewSource(3))
	for _, b := range append(looseBoxes(random, 2000), smallBoxes(2)...) {
		in := points(b)
		for _, p := range points(bx(-2, -2, -2, 4, 4, 4)) {
			if is := box.Has(b, p); is != slices.Contains(in, p) {
				t.Errorf("Has of %v and %v: %v", b, p, is)
			}
		}
	}
	all := bx(math.MinInt, math.MinInt, math.MinInt, math.MaxInt, math.MaxInt, math.MaxInt)
	for _, c := range []struct {
		p    api.Vec
		want bool
	}{{vec(0, 0, 0), true}, {all.Min, true}, {all.Max, false}, {vec(math.MaxInt-1, math.MinInt, math.MaxInt-1), true}, {vec(math.MaxInt, 0, 0), false}, {vec(0, 0, math.MaxInt), false}} {
		if is := box.Has(all, c.p); is != c.want {
			t.Errorf("Has of %v: %v", c.p, is)
		}
	}
}

func TestInsideAndOverlap(t *testing.T) {
	random := rand.New(rand.NewSource(4))
	loose := append(looseBoxes(random, 400), smallBoxes(2)...)
	for _, a := range loose {
		ofA := points(a)
		for _, b := range loose {
			inside := a.Min.X >= b.Min.X && a.Min.Y >= b.Min.Y && a.Min.Z >= b.Min.Z && a.Max.X <= b.Max.X && a.Max.Y <= b.Max.Y && a.Max.Z <= b.Max.Z
			if is := box.Inside(a, b); is != inside {
				t.Errorf("Inside of %v and %v: %v", a, b, is)
			}
			overlap := slices.ContainsFunc(points(b), func(p api.Vec) bool { return slices.Contains(ofA, p) })
			if is := box.Overlap(a, b); is != overlap {
				t.Errorf("Overlap of %v and %v: %v", a, b, is)
			}
		}
	}
	all := bx(math.MinInt, math.MinInt, math.MinInt, math.MaxInt, math.MaxInt, math.MaxInt)
	last := bx(math.MaxInt-1, math.MaxInt-1, math.MaxInt-1, math.MaxInt, math.MaxInt, math.MaxInt)
	none := api.Box{Min: all.Max, Max: all.Min}
	for _, c := range []struct {
		a, b            api.Box
		inside, overlap bool
	}{{all, all, true, true}, {last, all, true, true}, {all, last, false, true}, {none, all, true, false}, {all, none, false, false}, {none, none, true, false}, {none, unit, true, false}, {unit, none, false, false}} {
		if is := box.Inside(c.a, c.b); is != c.inside {
			t.Errorf("Inside of %v and %v: %v", c.a, c.b, is)
		}
		if is := box.Overlap(c.a, c.b); is != c.overlap {
			t.Errorf("Overlap of %v and %v: %v", c.a, c.b, is)
		}
	}
}

func TestTouch(t *testing.T) {
	for _, c := range []struct {
		b    api.Box
		want int
		e    api.Errno
	}{
		{bx(4, 1, 1, 5, 2, 2), api.PlusX, api.OK}, {bx(4, 4, 0, 5, 5, 1), 0, api.ErrNone}, {bx(-2, 3, 3, 0, 9, 9), api.MinusX, api.OK}, {bx(-9, 4, -9, 9, 5, 9), api.PlusY, api.OK},
		{bx(3, -1, 0, 4, 0, 1), api.MinusY, api.OK}, {bx(0, 0, 4, 4, 4, 5), api.PlusZ, api.OK}, {bx(3, 3, -4, 5, 5, 0), api.MinusZ, api.OK}, {cube, 0, api.ErrNone},
		{bx(4, 4, 4, 5, 5, 5), 0, api.ErrNone}, {bx(4, 0, 4, 5, 4, 5), 0, api.ErrNone}, {bx(5, 0, 0, 6, 4, 4), 0, api.ErrNone}, {bx(3, 0, 0, 5, 4, 4), 0, api.ErrNone}, {bx(4, 4, 1, 5, 9, 2), 0, api.ErrNone},
	} {
		if d, e := box.Touch(cube, c.b); d != c.want || e != c.e {
			t.Errorf("Touch of %v: %d, %d", c.b, d, e)
		}
	}
	half, other := bx(-top, -top, -top, top, 0, top), bx(-top, 0, -top, top, top, top)
	if d, e := box.Touch(half, other); d != api.PlusY || e != api.OK {
		t.Errorf("Touch of the halves: %d, %d", d, e)
	}
}

// TestPairs has all pairs of small boxes against the document's words.
func TestPairs(t *testing.T) {
	all := smallBoxes(3)
	for _, a := range all {
		for _, b := range all {
			want, wantError := slowTouch(a, b)
			d, e := box.Touch(a, b)
			if d != want || e != wantError {
				t.Fatalf("Touch of %v and %v: %d, %d", a, b, d, e)
			}
			if back, e := box.Touch(b, a); e != wantError || e == api.OK && back != d^1 {
				t.Fatalf("Touch of %v and %v: %d, %d, the other way %d", b, a, back, e, d)
			}
			var both []api.Vec
			for _, p := range points(a) {
				if box.Has(b, p) {
					both = append(both, p)
				}
			}
			c, e := box.Intersect(a, b)
			if len(both) == 0 && (e != api.ErrNone || c != api.Box{}) || len(both) > 0 && (e != api.OK || !slices.Equal(points(c), both)) {
				t.Fatalf("Intersect of %v and %v: %v, %d", a, b, c, e)
			}
			hull, e := box.Hull(a, b)
			if e != api.OK || !box.Inside(a, hull) || !box.Inside(b, hull) {
				t.Fatalf("Hull of %v and %v: %v, %d", a, b, hull, e)
			}
			for _, less := range []api.Vec{vec(1, 0, 0), vec(0, 1, 0), vec(0, 0, 1)} {
				for _, smaller := range []api.Box{
					{Min: vec(hull.Min.X+less.X, hull.Min.Y+less.Y, hull.Min.Z+less.Z), Max: hull.Max}, {Min: hull.Min, Max: vec(hull.Max.X-less.X, hull.Max.Y-less.Y, hull.Max.Z-less.Z)},
				} {
					if box.Inside(a, smaller) && box.Inside(b, smaller) {
						t.Fatalf("Hull of %v and %v is %v, not %v", a, b, hull, smaller)
					}
				}
			}
		}
	}
}

func TestIntersectAndHullAtTheEnds(t *testing.T) {
	low, high := bx(-top, -top, -top, 1, 1, 1), bx(0, 0, 0, top, top, top)
	if c, e := box.Intersect(low, high); c != unit || e != api.OK {
		t.Errorf("Intersect: %v, %d", c, e)
	}
	if c, e := box.Hull(low, high); c != whole || e != api.OK {
		t.Errorf("Hull: %v, %d", c, e)
	}
	if c, e := box.Intersect(whole, high); c != high || e != api.OK {
		t.Errorf("Intersect with the whole: %v, %d", c, e)
	}
	if c, e := box.Hull(unit, unit); c != unit || e != api.OK {
		t.Errorf("Hull of one box: %v, %d", c, e)
	}
}

func TestMove(t *testing.T) {
	b := bx(-5, 0, 5, 10, 20, 30)
	for _, c := range []struct {
		by   api.Vec
		want api.Box
		e    api.Errno
	}{
		{vec(0, 0, 0), b, api.OK}, {vec(1, -2, 3), bx(-4, -2, 8, 11, 18, 33), api.OK}, {vec(top-10, top-20, top-30), bx(top-15, top-20, top-25, top, top, top), api.OK},
		{vec(5-top, -top, -5-top), bx(-top, -top, -top, 15-top, 20-top, 25-top), api.OK}, {vec(top-9, 0, 0), api.Box{}, api.ErrRange}, {vec(0, top-19, 0), api.Box{}, api.ErrRange},
		{vec(0, 0, top-29), api.Box{}, api.ErrRange}, {vec(4-top, 0, 0), api.Box{}, api.ErrRange}, {vec(0, -top-1, 0), api.Box{}, api.ErrRange}, {vec(0, 0, -top-6), api.Box{}, api.ErrRange},
		{vec(math.MaxInt, 0, 0), api.Box{}, api.ErrRange}, {vec(0, math.MinInt, 0), api.Box{}, api.ErrRange}, {vec(0, 0, math.MaxInt-29), api.Box{}, api.ErrRange}, {vec(math.MinInt, math.MaxInt, math.MinInt), api.Box{}, api.ErrRange},
		{vec(math.MinInt+1, 0, 0), api.Box{}, api.ErrRange}, {vec(3*top, 0, 0), api.Box{}, api.ErrRange}, {vec(1<<32, 0, 0), api.Box{}, api.ErrRange},
	} {
		moved, e := box.Move(b, c.by)
		if moved != c.want || e != c.e {
			t.Errorf("Move by %v: %v, %d", c.by, moved, e)
		}
		if e != api.OK {
			continue
		}
		if back, e := box.Move(moved, vec(-c.by.X, -c.by.Y, -c.by.Z)); back != b || e != api.OK {
			t.Errorf("Move by %v and back: %v, %d", c.by, back, e)
		}
	}
	if c, e := box.Move(whole, vec(0, 0, 1)); c != (api.Box{}) || e != api.ErrRange {
		t.Errorf("Move of the whole: %v, %d", c, e)
	}
}

func TestMoveOfTwoBoxes(t *testing.T) {
	random := rand.New(rand.NewSource(6))
	all := smallBoxes(3)
	for range 3000 {
		a, b := all[random.Intn(len(all))], all[random.Intn(len(all))]
		by := vec(random.Intn(top), -random.Intn(top), random.Intn(9))
		movedA, e1 := box.Move(a, by)
		movedB, e2 := box.Move(b, by)
		if e1 != api.OK && e2 != api.OK {
			continue
		}
		if box.Overlap(a, b) != box.Overlap(movedA, movedB) {
			t.Errorf("Overlap of %v and %v is not that of %v and %v", a, b, movedA, movedB)
		}
		d, e := box.Touch(a, b)
		if moved, e3 := box.Touch(movedA, movedB); moved != d || e3 != e {
			t.Errorf("Touch of %v and %v is not that of %v and %v", a, b, movedA, movedB)
		}
	}
}
