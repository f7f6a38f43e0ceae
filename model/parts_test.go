package model_test

import (
	"math"
	"testing"

	"gangsaw/api"
	"gangsaw/box"
	"gangsaw/model"
)

func TestErrorsOfBoxesAndStates(t *testing.T) {
	bad := []api.Box{{}, bx(0, 0, 0, 0, 9, 9), bx(0, 9, 0, 9, 8, 9), bx(-top-1, 0, 0, 9, 9, 9), bx(0, 0, 0, 9, 9, top+1), bx(0, 0, 0, math.MaxInt, 9, 9), bx(math.MaxInt, 0, 0, math.MinInt, 9, 9)}
	good := []api.Box{whole, bx(0, 0, 0, 1, 1, 1), bx(top-1, -top, 0, top, 1-top, 1)}
	odd := []int{-1, clash + 1, math.MaxInt, math.MinInt, 1 << 32}
	check := func(b api.Box, state int, want api.Errno) {
		for _, list := range [][]api.Evidence{nil, example(), full()} {
			for name, call := range calls(pt(0, 0, 0), b, state, 0) {
				if name != "Volume" && name != "First" && name != "All" {
					continue
				}
				if e, zero := call(list); e != want || !zero {
					t.Errorf("%s of %d in %v: %d (other results zero: %v), not %d", name, state, b, e, zero, want)
				}
			}
		}
	}
	for _, b := range bad {
		for _, state := range append([]int{unseen, clash}, odd...) {
			check(b, state, box.Check(b))
		}
	}
	for _, b := range good {
		for _, state := range odd {
			check(b, state, api.ErrInvalid)
		}
	}
	// Nothing is sound where nothing is said, but that is no error, except for First.
	for _, b := range good {
		for state := unseen; state <= clash; state++ {
			wantError, want := api.ErrNone, int64(0)
			if state == unseen {
				wantError, want = api.OK, int64(b.Max.X-b.Min.X)*int64(b.Max.Y-b.Min.Y)*int64(b.Max.Z-b.Min.Z)
			}
			if n, e := model.Volume(nil, b, state); n != want || e != api.OK {
				t.Errorf("Volume of %d in %v: %d, %d", state, b, n, e)
			}
			if v, e := model.First(nil, b, state); e != wantError || e == api.OK && v != b.Min || e != api.OK && v != (api.Vec{}) {
				t.Errorf("First of %d in %v: %v, %d", state, b, v, e)
			}
			if all, e := model.All(nil, b, state); all != (state == unseen) || e != api.OK {
				t.Errorf("All of %d in %v: %v, %d", state, b, all, e)
			}
		}
	}
}

// TestFirstOfSeveral has several boxes of which each has the least z, the least y or the least x of its kind.
func TestFirstOfSeveral(t *testing.T) {
	at := func(x, y, z int) api.Evidence { return ev("a", sound, bx(x, y, z, x+4, y+4, z+4)) }
	for _, c := range []struct {
		list []api.Evidence
		want api.Vec
	}{
		{[]api.Evidence{at(0, 0, 5), at(20, 20, 4), at(0, 20, 6)}, pt(20, 20, 4)},
		{[]api.Evidence{at(0, 9, 4), at(20, 8, 4), at(0, 10, 4), at(0, 0, 5)}, pt(20, 8, 4)},
		{[]api.Evidence{at(9, 8, 4), at(30, 8, 4), at(3, 8, 4), at(20, 8, 4)}, pt(3, 8, 4)},
		{[]api.Evidence{at(9, 8, 4), at(9, 8, 4)}, pt(9, 8, 4)},
		{[]api.Evidence{at(-3, -3, -3), at(-1, 8, 4)}, pt(0, 0, 0)},
		{[]api.Evidence{at(-3, 1, -3), at(-1, 0, 3)}, pt(0, 1, 0)},
		{[]api.Evidence{at(-3, 8, 5), at(8, -3, 5), at(8, 8, 4)}, pt(8, 8, 4)},
		{[]api.Evidence{at(-3, 8, 5), at(8, -3, 5)}, pt(8, 0, 5)},
		{[]api.Evidence{at(-3, 8, 5), at(8, 7, 5)}, pt(8, 7, 5)},
		// The least cell is hidden by others that say something else.
		{[]api.Evidence{at(0, 0, 0), ev("b", flawed, bx(0, 0, 0, 4, 4, 3)), at(20, 20, 2)}, pt(20, 20, 2)},
		{[]api.Evidence{at(0, 0, 0), ev("b", flawed, bx(0, 0, 0, 4, 3, 4))}, pt(0, 3, 0)},
		{[]api.Evidence{at(0, 0, 0), ev("b", flawed, bx(0, 0, 0, 3, 4, 4))}, pt(3, 0, 0)},
		{[]api.Evidence{at(0, 0, 0), ev("b", flawed, bx(0, 0, 0, 3, 3, 3))}, pt(3, 0, 0)},
	} {
		b := bx(0, 0, 0, 50, 50, 50)
		if v, e := model.First(c.list, b, sound); v != c.want || e != api.OK {
			t.Errorf("First of %v: %v, %d, not %v", c.list, v, e, c.want)
		}
		compareBox(t, c.list, bx(0, 0, 0, 30, 25, 10))
	}
}

// TestEnds has evidence that reaches beyond a box, up to its ends, and to the ends of the coordinates.
func TestEnds(t *testing.T) {
	list := []api.Evidence{ev("a", sound, bx(-top, -top, -top, 0, top, top)), ev("b", flawed, bx(0, -top, -top, top, top, 0)), ev("c", sound, bx(-1, -top, -top, 1, top, top))}
	side := int64(2 * top)
	for state, want := range map[int]int64{sound: top*side*side + side*top, clash: side * top, flawed: (top - 1) * side * top, unseen: (top - 1) * side * top} {
		if n, e := model.Volume(list, whole, state); n != want || e != api.OK {
			t.Errorf("Volume of %d: %d, %d, not %d", state, n, e, want)
		}
	}
	for state, want := range map[int]api.Vec{sound: pt(-top, -top, -top), clash: pt(0, -top, -top), flawed: pt(1, -top, -top), unseen: pt(1, -top, 0)} {
		if v, e := model.First(list, whole, state); v != want || e != api.OK {
			t.Errorf("First of %d: %v, %d, not %v", state, v, e, want)
		}
	}
	for _, c := range []struct {
		b     api.Box
		state int
	}{
		{bx(-top, -top, -top, 0, top, top), sound}, {bx(0, -top, 0, 1, top, top), sound}, {bx(0, -top, -top, 1, top, 0), clash}, {bx(1, -top, -top, top, top, 0), flawed}, {bx(1, -top, 0, top, top, top), unseen}, {bx(top-1, top-1, top-1, top, top, top), unseen}, {bx(top-1, top-1, -top, top, top, 1-top), flawed},
	} {
		for state := unseen; state <= clash; state++ {
			if all, e := model.All(list, c.b, state); all != (state == c.state) || e != api.OK {
				t.Errorf("All of %d in %v: %v, %d", state, c.b, all, e)
			}
		}
	}
	if n, e := model.Volume(nil, whole, unseen); n != side*side*side || e != api.OK {
		t.Errorf("Volume of everything: %d, %d", n, e)
	}
}

// TestNested has as many boxes as possible in each other, whose ends are all different.
func TestNested(t *testing.T) {
	var list []api.Evidence
	want := map[int]int64{}
	for i := range api.MaxEvidence {
		b := bx(i-top, 2*i-top, 3*i-top, top-i, top-2*i, top-3*i)
		list = append(list, ev("a", sound, b))
		volume, _ := box.Volume(b)
		switch i {
		case 0:
			want[sound] = volume
		case 100:
			want[sound] -= volume
			want[clash] = volume
		}
	}
	for i := 100; i < api.MaxEvidence; i++ {
		list[i].State = flawed
	}
	for state := unseen; state <= clash; state++ {
		if n, e := model.Volume(list, whole, state); n != want[state] || e != api.OK {
			t.Errorf("Volume of %d: %d, %d, not %d", state, n, e, want[state])
		}
	}
	if v, e := model.First(list, whole, clash); v != pt(100-top, 200-top, 300-top) || e != api.OK {
		t.Errorf("First: %v, %d", v, e)
	}
	for index, useless := range map[int]bool{0: false, 1: true, 99: true, 100: false, 101: true, api.MaxEvidence - 1: true} {
		if is, e := model.Useless(list, index); is != useless || e != api.OK {
			t.Errorf("Useless of %d: %v, %d", index, is, e)
		}
	}
}

// TestStairs has as many boxes as possible which touch or overlap their neighbours only.
func TestStairs(t *testing.T) {
	for _, c := range []struct {
		length, clashes int
		want            [clash + 1]int64
	}{
		// Where two neighbours overlap, in a cube with an edge of 1, they clash.
		{10, 0, [clash + 1]int64{unseen: 2560*2560*2560 - 256*1000, sound: 128 * 1000, flawed: 128 * 1000}},
		{11, 255, [clash + 1]int64{unseen: 2560*2560*2560 - 256*1331 + 255 + 331, sound: 128*1331 - 255, flawed: 128*1331 - 255 - 331, clash: 255}},
	} {
		var list []api.Evidence
		for i := range api.MaxEvidence {
			list = append(list, ev("a", sound+i%2, bx(10*i, 10*i, 10*i, 10*i+c.length, 10*i+c.length, 10*i+c.length)))
		}
		for state, want := range c.want {
			if n, e := model.Volume(list, bx(0, 0, 0, 2560, 2560, 2560), state); n != want || e != api.OK {
				t.Errorf("Volume of %d: %d, %d, not %d", state, n, e, want)
			}
		}
		if pairs, e := model.Clashes(list); len(pairs) != c.clashes || e != api.OK {
			t.Errorf("%d clashes, %d, not %d", len(pairs), e, c.clashes)
		}
	}
}
