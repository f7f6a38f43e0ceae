package box_test

import (
	"math/rand"
	"slices"
	"testing"

	"gangsaw/api"
	"gangsaw/box"
)

// slowSubtract writes out the document's six parts.
func slowSubtract(a, b api.Box) []api.Box {
	from := vec(max(a.Min.X, b.Min.X), max(a.Min.Y, b.Min.Y), max(a.Min.Z, b.Min.Z))
	to := vec(min(a.Max.X, b.Max.X), min(a.Max.Y, b.Max.Y), min(a.Max.Z, b.Max.Z))
	if from.X >= to.X || from.Y >= to.Y || from.Z >= to.Z {
		return []api.Box{a}
	}
	parts := []api.Box{
		bx(a.Min.X, a.Min.Y, a.Min.Z, a.Max.X, a.Max.Y, from.Z),
		bx(a.Min.X, a.Min.Y, to.Z, a.Max.X, a.Max.Y, a.Max.Z),
		bx(a.Min.X, a.Min.Y, from.Z, a.Max.X, from.Y, to.Z),
		bx(a.Min.X, to.Y, from.Z, a.Max.X, a.Max.Y, to.Z),
		bx(a.Min.X, from.Y, from.Z, from.X, to.Y, to.Z),
		bx(to.X, from.Y, from.Z, a.Max.X, to.Y, to.Z),
	}
	return slices.DeleteFunc(parts, func(p api.Box) bool { return p.Min.X == p.Max.X || p.Min.Y == p.Max.Y || p.Min.Z == p.Max.Z })
}

func slowRest(b api.Box, list []api.Box) []api.Box {
	parts := []api.Box{b}
	for _, taken := range list {
		var next []api.Box
		for _, part := range parts {
			next = append(next, slowSubtract(part, taken)...)
		}
		parts = next
	}
	return parts
}

// someBoxes are valid ones with coordinates from 0 to size.
func someBoxes(random *rand.Rand, n, size int) []api.Box {
	list := []api.Box{}
	for len(list) < n {
		c := func() int { return random.Intn(size + 1) }
		b := bx(c(), c(), c(), c(), c(), c())
		if box.Check(b) == api.OK {
			list = append(list, b)
		}
	}
	return list
}

// farBoxes are valid ones with coordinates of the whole range.
func farBoxes(random *rand.Rand, n int) []api.Box {
	list := []api.Box{}
	for len(list) < n {
		c := func() int { return max(min(random.Intn(3*top)-3*top/2, top), -top) }
		b := bx(c(), c(), c(), c(), c(), c())
		if box.Check(b) == api.OK {
			list = append(list, b)
		}
	}
	return list
}

func volumes(t *testing.T, list []api.Box) int64 {
	t.Helper()
	total := int64(0)
	for _, b := range list {
		n, e := box.Volume(b)
		if e != api.OK {
			t.Fatalf("Volume of %v: %d", b, e)
		}
		total += n
	}
	return total
}

func TestSubtract(t *testing.T) {
	for _, c := range []struct {
		a, b api.Box
		want []api.Box
	}{
		{cube, bx(2, 2, 2, 6, 6, 6), []api.Box{bx(0, 0, 0, 4, 4, 2), bx(0, 0, 2, 4, 2, 4), bx(0, 2, 2, 2, 4, 4)}},
		{cube, bx(1, 1, 1, 3, 3, 3), []api.Box{bx(0, 0, 0, 4, 4, 1), bx(0, 0, 3, 4, 4, 4), bx(0, 0, 1, 4, 1, 3), bx(0, 3, 1, 4, 4, 3), bx(0, 1, 1, 1, 3, 3), bx(3, 1, 1, 4, 3, 3)}},
		{cube, cube, nil}, {cube, whole, nil}, {cube, bx(4, 0, 0, 5, 4, 4), []api.Box{cube}}, {cube, bx(9, 9, 9, 10, 10, 10), []api.Box{cube}}, {cube, bx(-1, -1, -1, 9, 9, 2), []api.Box{bx(0, 0, 2, 4, 4, 4)}},
		{whole, unit, []api.Box{
			bx(-top, -top, -top, top, top, 0), bx(-top, -top, 1, top, top, top), bx(-top, -top, 0, top, 0, 1), bx(-top, 1, 0, top, top, 1), bx(-top, 0, 0, 0, 1, 1), bx(1, 0, 0, top, 1, 1),
		}},
		{whole, bx(-top, -top, -top, top, top, top-1), []api.Box{bx(-top, -top, top-1, top, top, top)}},
	} {
		if parts, e := box.Subtract(c.a, c.b); !slices.Equal(parts, c.want) || e != api.OK {
			t.Errorf("Subtract of %v and %v: %v, %d", c.a, c.b, parts, e)
		}
	}
}

func TestSubtractOfAllPairs(t *testing.T) {
	all := smallBoxes(3)
	for _, a := range all {
		for _, b := range all {
			parts, e := box.Subtract(a, b)
			if !slices.Equal(parts, slowSubtract(a, b)) || e != api.OK {
				t.Fatalf("Subtract of %v and %v: %v, %d", a, b, parts, e)
			}
			for _, p := range points(bx(0, 0, 0, 3, 3, 3)) {
				in := 0
				for _, part := range parts {
					if box.Has(part, p) {
						in++
					}
				}
				if want := box.Has(a, p) && !box.Has(b, p); want != (in == 1) || in > 1 {
					t.Fatalf("Subtract of %v and %v: %v, %d of which have %v", a, b, parts, in, p)
				}
			}
		}
	}
}

func TestSubtractKeepsVolumes(t *testing.T) {
	random := rand.New(rand.NewSource(8))
	for range 2000 {
		two := farBoxes(random, 2)
		parts, e := box.Subtract(two[0], two[1])
		if !slices.Equal(parts, slowSubtract(two[0], two[1])) || e != api.OK {
			t.Fatalf("Subtract of %v: %v, %d", two, parts, e)
		}
		sum := volumes(t, parts)
		if c, e := box.Intersect(two[0], two[1]); e == api.OK {
			sum += volumes(t, []api.Box{c})
		}
		if sum != volumes(t, two[:1]) {
			t.Errorf("Subtract of %v: %v with other volumes", two, parts)
		}
	}
}

func TestRest(t *testing.T) {
	for _, c := range []struct {
		b          api.Box
		list, want []api.Box
	}{
		{cube, nil, []api.Box{cube}}, {cube, []api.Box{}, []api.Box{cube}}, {cube, []api.Box{whole}, nil}, {cube, []api.Box{whole, unit}, nil}, {cube, []api.Box{bx(7, 7, 7, 8, 8, 8)}, []api.Box{cube}},
		{cube, []api.Box{bx(0, 0, 0, 2, 4, 4), bx(2, 0, 0, 4, 4, 4)}, nil}, {cube, []api.Box{bx(0, 0, 0, 2, 4, 4), bx(0, 0, 0, 4, 2, 4)}, []api.Box{bx(2, 2, 0, 4, 4, 4)}},
		{cube, []api.Box{bx(0, 0, 1, 4, 4, 2), bx(1, 0, 0, 2, 4, 4)}, []api.Box{bx(0, 0, 0, 1, 4, 1), bx(2, 0, 0, 4, 4, 1), bx(0, 0, 2, 1, 4, 4), bx(2, 0, 2, 4, 4, 4)}},
	} {
		if parts, e := box.Rest(c.b, c.list); !slices.Equal(parts, c.want) || e != api.OK {
			t.Errorf("Rest of %v and %v: %v, %d", c.b, c.list, parts, e)
		}
	}
}

func TestRestAgainstSlowRest(t *testing.T) {
	random := rand.New(rand.NewSource(9))
	for round := range 1500 {
		list := someBoxes(random, 1+random.Intn(8), 2+round%6)
		if round%5 == 0 {
			list = farBoxes(random, 1+random.Intn(12))
		}
		b, list := list[0], list[1:]
		before := slices.Clone(list)
		parts, e := box.Rest(b, list)
		if !slices.Equal(parts, slowRest(b, list)) || e != api.OK {
			t.Fatalf("Rest of %v and %v: %v, %d", b, list, parts, e)
		}
		if !slices.Equal(list, before) {
			t.Fatalf("Rest changes its list %v", before)
		}
		for i := range parts {
			parts[i] = unit
		}
		if again, e := box.Rest(b, list); !slices.Equal(again, slowRest(b, list)) || e != api.OK {
			t.Fatalf("Rest of %v and %v, again: %v, %d", b, list, again, e)
		}
	}
}

// sheetsAndRods divide the cube of 500 into (sheets + 1) * (1 + 3 * rods) pieces.
func sheetsAndRods(sheets, rods int) []api.Box {
	var list []api.Box
	for i := range sheets {
		list = append(list, bx(2*i+1, 0, 0, 2*i+2, 500, 500))
	}
	for i := range rods {
		list = append(list, bx(0, 2*i+1, 2*i+1, 500, 2*i+2, 2*i+2))
	}
	return list
}

func TestNumberOfPieces(t *testing.T) {
	b := bx(0, 0, 0, 500, 500, 500)
	list := sheetsAndRods(63, 21)
	parts, e := box.Rest(b, list)
	if len(parts) != box.MaxPieces || e != api.OK || !slices.Equal(parts, slowRest(b, list)) {
		t.Fatalf("Rest: %d pieces, %d", len(parts), e)
	}
	// A corner of a piece is cut off: 4098 pieces.
	corner := bx(400, 400, 400, 500, 500, 500)
	for _, last := range [][]api.Box{{corner}, {corner, b}, {corner, corner, whole}} {
		if parts, e := box.Rest(b, append(slices.Clip(list), last...)); len(parts) > 0 || e != api.ErrTooMany {
			t.Errorf("Rest without %v: %d pieces, %d", last, len(parts), e)
		}
	}
	// A whole piece is taken first.
	for _, c := range []struct {
		more []api.Box
		want int
	}{{[]api.Box{bx(0, 0, 0, 1, 500, 1)}, 4095}, {[]api.Box{b}, 0}, {[]api.Box{b, corner}, 0}} {
		if parts, e := box.Rest(b, append(slices.Clip(list), c.more...)); len(parts) != c.want || e != api.OK {
			t.Errorf("Rest without %v: %d pieces, %d", c.more, len(parts), e)
		}
	}
	if parts, e := box.Rest(b, append(sheetsAndRods(128, 127), whole)); len(parts) > 0 || e != api.ErrTooMany {
		t.Errorf("Rest of a grid: %d pieces, %d", len(parts), e)
	}
}
