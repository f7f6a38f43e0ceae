package box_test

import (
	"math/rand"
	"slices"
	"testing"

	"gangsaw/api"
	"gangsaw/box"
)

// ofList has the functions of a list; each tells its error, and whether its other results are zero values.
func ofList() map[string]func(b api.Box, list []api.Box) (api.Errno, bool) {
	return map[string]func(b api.Box, list []api.Box) (api.Errno, bool){
		"Rest": func(b api.Box, list []api.Box) (api.Errno, bool) {
			parts, e := box.Rest(b, list)
			return e, len(parts) == 0
		},
		"Gap": func(b api.Box, list []api.Box) (api.Errno, bool) {
			p, e := box.Gap(b, list)
			return e, p == api.Vec{}
		},
		"Partition": func(b api.Box, list []api.Box) (api.Errno, bool) { return box.Partition(b, list), true },
		"Total": func(_ api.Box, list []api.Box) (api.Errno, bool) {
			n, e := box.Total(list)
			return e, n == 0
		},
		"Clash": func(_ api.Box, list []api.Box) (api.Errno, bool) {
			i, k, e := box.Clash(list)
			return e, i == 0 && k == 0
		},
	}
}

func slowGap(b api.Box, list []api.Box) (api.Vec, api.Errno) {
	for _, p := range points(b) {
		if !slices.ContainsFunc(list, func(c api.Box) bool { return box.Has(c, p) }) {
			return p, api.OK
		}
	}
	return api.Vec{}, api.ErrNone
}

func slowTotal(list []api.Box) int64 {
	seen := map[api.Vec]bool{}
	for _, b := range list {
		for _, p := range points(b) {
			seen[p] = true
		}
	}
	return int64(len(seen))
}

func slowClash(list []api.Box) (int, int, api.Errno) {
	for i, a := range list {
		for k, b := range list[i+1:] {
			if slices.ContainsFunc(points(a), func(p api.Vec) bool { return box.Has(b, p) }) {
				return i, i + 1 + k, api.OK
			}
		}
	}
	return 0, 0, api.ErrNone
}

func slowPartition(b api.Box, list []api.Box) api.Errno {
	for _, c := range list {
		if slices.ContainsFunc(points(c), func(p api.Vec) bool { return !box.Has(b, p) }) {
			return api.ErrOutside
		}
	}
	if _, _, e := slowClash(list); e == api.OK {
		return api.ErrOverlap
	}
	if _, e := slowGap(b, list); e == api.OK {
		return api.ErrNone
	}
	return api.OK
}

func TestErrorsOfLists(t *testing.T) {
	far, empty := bx(0, 0, 0, 1, 1, top+1), bx(0, 0, 0, 1, 1, 0)
	long := slices.Repeat([]api.Box{unit}, box.MaxBoxes+1)
	for name, call := range ofList() {
		wantError := func(b api.Box, list []api.Box, want api.Errno) {
			t.Helper()
			if e, zero := call(b, list); e != want || !zero {
				t.Errorf("%s of %v and %d boxes: %d (other results zero: %v), not %d", name, b, len(list), e, zero, want)
			}
		}
		for _, b := range []api.Box{unit, far, empty} {
			wantError(b, long, api.ErrTooMany)
			wantError(b, slices.Repeat([]api.Box{far, empty}, 2000), api.ErrTooMany)
		}
		for i := range 4 {
			list := []api.Box{cube, bx(0, 0, 0, 9, 9, 9), cube, unit}
			list[i] = empty
			wantError(cube, list, api.ErrInvalid)
			if i < 3 {
				list[3] = far
				wantError(cube, list, api.ErrInvalid)
				list[i], list[3] = far, empty
			}
			list[i] = far
			wantError(cube, list, api.ErrRange)
		}
		full := slices.Repeat([]api.Box{unit}, box.MaxBoxes)
		full[box.MaxBoxes-1] = empty
		wantError(unit, full, api.ErrInvalid)
		for _, b := range outOfRange() {
			wantError(unit, []api.Box{b}, api.ErrRange)
		}
		for _, b := range empties {
			wantError(unit, []api.Box{b}, api.ErrInvalid)
		}
		if name == "Total" || name == "Clash" {
			continue
		}
		for _, list := range [][]api.Box{nil, {unit}, {far}, {empty}, {empty, far}} {
			for _, b := range outOfRange() {
				wantError(b, list, api.ErrRange)
			}
			for _, b := range empties {
				wantError(b, list, api.ErrInvalid)
			}
		}
	}
}

func TestGap(t *testing.T) {
	for _, c := range []struct {
		b    api.Box
		list []api.Box
		want api.Vec
		e    api.Errno
	}{
		{cube, []api.Box{bx(0, 0, 0, 4, 4, 1), bx(0, 0, 1, 3, 4, 4)}, vec(3, 0, 1), api.OK}, {cube, nil, vec(0, 0, 0), api.OK}, {cube, []api.Box{}, vec(0, 0, 0), api.OK}, {cube, []api.Box{cube}, api.Vec{}, api.ErrNone},
		{cube, []api.Box{whole}, api.Vec{}, api.ErrNone}, {bx(-3, -2, -1, 0, 0, 0), []api.Box{unit}, vec(-3, -2, -1), api.OK}, {bx(-1, -1, -1, 0, 0, 0), []api.Box{bx(-1, -1, -1, 0, 0, 0)}, api.Vec{}, api.ErrNone},
		{cube, []api.Box{bx(0, 0, 0, 4, 4, 4), bx(9, 9, 9, 10, 10, 10)}, api.Vec{}, api.ErrNone}, {cube, []api.Box{bx(3, 0, 0, 4, 4, 4), bx(0, 0, 0, 2, 4, 4)}, vec(2, 0, 0), api.OK},
		{cube, []api.Box{bx(2, 0, 0, 4, 4, 4), bx(0, 0, 0, 2, 4, 4)}, api.Vec{}, api.ErrNone}, {cube, []api.Box{bx(0, 0, 0, 4, 3, 4), bx(1, 3, 0, 4, 4, 4), bx(0, 3, 0, 1, 4, 3)}, vec(0, 3, 3), api.OK},
		{cube, []api.Box{bx(-5, -5, -5, 9, 9, 3), bx(-5, -5, -5, 9, 2, 9), bx(-5, -5, -5, 1, 9, 9)}, vec(1, 2, 3), api.OK},
		{whole, []api.Box{bx(-top, -top, -top, top, top, top-1), bx(-top, -top, top-1, top, top-1, top), bx(-top, top-1, top-1, top-1, top, top)}, vec(top-1, top-1, top-1), api.OK},
		{whole, []api.Box{bx(1-top, -top, -top, top, top, top)}, vec(-top, -top, -top), api.OK},
	} {
		for range 2 {
			if p, e := box.Gap(c.b, c.list); p != c.want || e != c.e {
				t.Errorf("Gap of %v and %v: %v, %d", c.b, c.list, p, e)
			}
			slices.Reverse(c.list)
		}
	}
}

func TestTotal(t *testing.T) {
	for _, c := range []struct {
		list []api.Box
		want int64
	}{
		{[]api.Box{cube, bx(2, 2, 2, 6, 6, 6), unit}, 120}, {nil, 0}, {[]api.Box{}, 0}, {[]api.Box{unit}, 1}, {[]api.Box{unit, unit, unit}, 1}, {[]api.Box{whole}, 8e18}, {[]api.Box{whole, cube, whole, unit}, 8e18},
		{[]api.Box{bx(-top, -top, -top, top, 0, top), bx(-top, 0, -top, top, top, top)}, 8e18}, {[]api.Box{bx(-top, -top, -top, 1, 1, 1), bx(0, 0, 0, top, top, top)}, 1000001*1000001*1000001 + 1e18 - 1},
		{[]api.Box{bx(5, 5, 5, 6, 6, 6), unit}, 2}, {slices.Repeat([]api.Box{bx(-top, -top, -top, top, top, top-1)}, box.MaxBoxes), 8e18 - 4e12},
	} {
		for range 2 {
			if n, e := box.Total(c.list); n != c.want || e != api.OK {
				t.Errorf("Total of %v: %d, %d, not %d", c.list, n, e, c.want)
			}
			slices.Reverse(c.list)
		}
	}
}

func TestClash(t *testing.T) {
	apart := func(n int) []api.Box {
		var list []api.Box
		for i := range n {
			list = append(list, bx(i, 0, 0, i+1, 1, 1))
		}
		return list
	}
	for _, c := range []struct {
		list []api.Box
		i, k int
		e    api.Errno
	}{
		{nil, 0, 0, api.ErrNone}, {[]api.Box{cube}, 0, 0, api.ErrNone}, {[]api.Box{cube, cube}, 0, 1, api.OK}, {apart(box.MaxBoxes), 0, 0, api.ErrNone}, {append(apart(255), bx(254, 0, 0, 255, 1, 1)), 254, 255, api.OK},
		{[]api.Box{bx(9, 9, 9, 10, 10, 10), unit, bx(4, 0, 0, 5, 4, 4), cube, unit, whole}, 0, 5, api.OK}, {[]api.Box{bx(9, 9, 9, 10, 10, 10), unit, bx(4, 0, 0, 5, 4, 4), cube, unit}, 1, 3, api.OK},
		{[]api.Box{cube, bx(4, 0, 0, 5, 4, 4), bx(0, 4, 0, 4, 5, 4), bx(0, 0, -1, 4, 4, 0), bx(4, 4, 4, 5, 5, 5)}, 0, 0, api.ErrNone},
	} {
		if i, k, e := box.Clash(c.list); i != c.i || k != c.k || e != c.e {
			t.Errorf("Clash of %v: %d, %d, %d", c.list, i, k, e)
		}
	}
}

func TestPartition(t *testing.T) {
	left, right := bx(0, 0, 0, 2, 4, 4), bx(2, 0, 0, 4, 4, 4)
	for _, c := range []struct {
		b    api.Box
		list []api.Box
		want api.Errno
	}{
		{cube, []api.Box{cube}, api.OK}, {cube, []api.Box{left, right}, api.OK}, {cube, []api.Box{right, left}, api.OK}, {cube, nil, api.ErrNone}, {cube, []api.Box{left}, api.ErrNone}, {cube, []api.Box{left, left}, api.ErrOverlap},
		{cube, []api.Box{left, right, unit}, api.ErrOverlap}, {cube, []api.Box{cube, cube}, api.ErrOverlap}, {cube, []api.Box{left, left, bx(2, 0, 0, 5, 4, 4)}, api.ErrOutside}, {cube, []api.Box{whole}, api.ErrOutside},
		{cube, []api.Box{left, bx(2, 0, 0, 4, 4, 3)}, api.ErrNone}, {cube, []api.Box{left, bx(2, 0, 0, 4, 4, 3), bx(2, 0, 3, 4, 4, 4)}, api.OK}, {cube, []api.Box{bx(8, 8, 8, 9, 9, 9)}, api.ErrOutside},
		// The volumes are those of the box, but two boxes overlap.
		{cube, []api.Box{left, bx(1, 0, 0, 3, 4, 4)}, api.ErrOverlap}, {whole, []api.Box{whole}, api.OK}, {whole, slices.Repeat([]api.Box{whole}, box.MaxBoxes), api.ErrOverlap},
		{whole, []api.Box{bx(-top, -top, -top, top, top, 0), bx(-top, -top, 0, top, top, top)}, api.OK}, {whole, []api.Box{bx(-top, -top, -top, top, top, 0), bx(-top, -top, 1, top, top, top)}, api.ErrNone},
	} {
		if e := box.Partition(c.b, c.list); e != c.want {
			t.Errorf("Partition of %v and %v: %d, not %d", c.b, c.list, e, c.want)
		}
	}
}

func TestListsAgainstPoints(t *testing.T) {
	random := rand.New(rand.NewSource(10))
	seen := map[api.Errno]int{}
	for round := range 4000 {
		list := someBoxes(random, 1+random.Intn(9), 2+round%5)
		b, list := list[0], list[1:]
		if round%3 == 0 {
			list = cut(random, b, 1+random.Intn(6))
		}
		if round%9 == 0 {
			list = slices.Delete(list, 0, 1)
		}
		before := slices.Clone(list)
		wantPoint, wantError := slowGap(b, list)
		if p, e := box.Gap(b, list); p != wantPoint || e != wantError {
			t.Fatalf("Gap of %v and %v: %v, %d, not %v", b, list, p, e, wantPoint)
		}
		if n, e := box.Total(list); n != slowTotal(list) || e != api.OK {
			t.Fatalf("Total of %v: %d, %d", list, n, e)
		}
		wantI, wantK, wantError := slowClash(list)
		if i, k, e := box.Clash(list); i != wantI || k != wantK || e != wantError {
			t.Fatalf("Clash of %v: %d, %d, %d", list, i, k, e)
		}
		e := box.Partition(b, list)
		if e != slowPartition(b, list) {
			t.Fatalf("Partition of %v and %v: %d", b, list, e)
		}
		seen[e]++
		if !slices.Equal(list, before) {
			t.Fatalf("the list %v is changed to %v", before, list)
		}
	}
	if len(seen) != 4 {
		t.Errorf("Partition gives %v", seen)
	}
}

// cut divides a box by random cuts.
func cut(random *rand.Rand, b api.Box, cuts int) []api.Box {
	list := []api.Box{b}
	for range cuts {
		i := random.Intn(len(list))
		low, high := list[i], list[i]
		switch n := box.Size(list[i]); random.Intn(3) {
		case 0:
			low.Max.X = low.Min.X + n.X/2
			high.Min.X = low.Max.X
		case 1:
			low.Max.Y = low.Min.Y + (n.Y+1)/2
			high.Min.Y = low.Max.Y
		case 2:
			low.Max.Z = low.Min.Z + n.Z/3
			high.Min.Z = low.Max.Z
		}
		if box.Check(low) == api.OK && box.Check(high) == api.OK {
			list[i] = high
			list = append(list, low)
		}
	}
	return list
}

func TestPartitionsOfManyBoxes(t *testing.T) {
	random := rand.New(rand.NewSource(12))
	for range 20 {
		list := cut(random, whole, box.MaxBoxes-1)
		random.Shuffle(len(list), func(i, k int) { list[i], list[k] = list[k], list[i] })
		if e := box.Partition(whole, list); e != api.OK {
			t.Fatalf("Partition of %v: %d", list, e)
		}
		if p, e := box.Gap(whole, list); p != (api.Vec{}) || e != api.ErrNone {
			t.Fatalf("Gap of %v: %v, %d", list, p, e)
		}
		if n, e := box.Total(list); n != 8e18 || e != api.OK {
			t.Fatalf("Total of %v: %d, %d", list, n, e)
		}
		if parts, e := box.Rest(whole, list); len(parts) > 0 || e != api.OK {
			t.Fatalf("Rest of %v: %v, %d", list, parts, e)
		}
		missing := list[0]
		if e := box.Partition(whole, list[1:]); e != api.ErrNone {
			t.Fatalf("Partition without %v: %d", missing, e)
		}
		if p, e := box.Gap(whole, list[1:]); p != missing.Min || e != api.OK {
			t.Fatalf("Gap without %v: %v, %d", missing, p, e)
		}
		if n, e := box.Total(list[1:]); n != 8e18-volumes(t, list[:1]) || e != api.OK {
			t.Fatalf("Total without %v: %d, %d", missing, n, e)
		}
	}
}

// TestTotalAndRest has the points of boxes in the whole counted in two ways.
func TestTotalAndRest(t *testing.T) {
	random := rand.New(rand.NewSource(14))
	for range 60 {
		list := farBoxes(random, 1+random.Intn(25))
		n, e := box.Total(list)
		parts, e2 := box.Rest(whole, list)
		if e != api.OK || e2 != api.OK || n+volumes(t, parts) != 8e18 {
			t.Errorf("Total of %v: %d, %d; Rest: %d, %d", list, n, e, volumes(t, parts), e2)
		}
		p, e := box.Gap(whole, list)
		if e != api.OK {
			t.Errorf("Gap of %v: %d", list, e)
		}
		first := slices.MinFunc(parts, func(a, b api.Box) int {
			return slices.Compare([]int{a.Min.Z, a.Min.Y, a.Min.X}, []int{b.Min.Z, b.Min.Y, b.Min.X})
		})
		if p != first.Min {
			t.Errorf("Gap of %v: %v, not %v", list, p, first.Min)
		}
	}
}

// TestNestedBoxes has the greatest number of rows, and boxes in all of them.
func TestNestedBoxes(t *testing.T) {
	var list []api.Box
	for i := range box.MaxBoxes {
		list = append(list, bx(-i-1, -2*i-2, -i-1, 2*i+2, i+1, i+1))
	}
	want := int64(768 * 768 * 512)
	for range 2 {
		if n, e := box.Total(list); n != want || e != api.OK {
			t.Errorf("Total: %d, %d", n, e)
		}
		if p, e := box.Gap(list[0], list); p != (api.Vec{}) || e != api.ErrNone {
			t.Errorf("Gap: %v, %d", p, e)
		}
		if p, e := box.Gap(bx(-256, -512, -256, 512, 256, 257), list); p != vec(-256, -512, 256) || e != api.OK {
			t.Errorf("Gap of a higher box: %v, %d", p, e)
		}
		slices.Reverse(list)
	}
}
