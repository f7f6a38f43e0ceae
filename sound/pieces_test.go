package sound_test

import (
	"fmt"
	"reflect"
	"slices"
	"testing"

	"gangsaw/api"
	"gangsaw/box"
	"gangsaw/sound"
)

// TestPieces has boxes with beds and joints that cross: some at one coordinate, some beside the box.
func TestPieces(t *testing.T) {
	s := api.Survey{
		Pit:    bx(0, 0, 0, 100, 100, 100),
		Beds:   []api.Bed{{Name: "b0", Z: 0}, {Name: "b9", Z: 20}, {Name: "b1", Z: 60}, {Name: "b3", Z: 100}},
		Joints: []api.Joint{{Name: "j1", Axis: api.AxisX, At: 50, Lo: 10, Hi: 30}, {Name: "j2", Axis: api.AxisX, At: 50, Lo: 40, Hi: 90}, {Name: "j3", Axis: api.AxisY, At: 30, Lo: 0, Hi: 100}, {Name: "j4", Axis: api.AxisX, At: 0, Lo: 0, Hi: 100}, {Name: "k", Axis: api.AxisX, At: 10, Lo: 95, Hi: 100}},
	}
	all := []api.Evidence{says(api.Sound, s.Pit)}
	for _, c := range []struct {
		b    api.Box
		list []api.Evidence
		want []api.Box
	}{
		{bx(0, 0, 0, 100, 100, 90), all, []api.Box{
			bx(0, 0, 0, 50, 30, 20), bx(50, 0, 0, 100, 30, 20), bx(0, 30, 0, 50, 100, 20), bx(50, 30, 0, 100, 100, 20),
			bx(0, 0, 20, 50, 30, 60), bx(50, 0, 20, 100, 30, 60), bx(0, 30, 20, 50, 100, 60), bx(50, 30, 20, 100, 100, 60),
			bx(0, 0, 60, 50, 30, 90), bx(50, 0, 60, 100, 30, 90), bx(0, 30, 60, 50, 100, 90), bx(50, 30, 60, 100, 100, 90),
		}},
		{bx(0, 30, 30, 100, 100, 40), all, []api.Box{bx(0, 30, 30, 100, 100, 40)}},
		// A joint that passes through a part of the height divides all of it.
		{bx(0, 30, 29, 100, 100, 40), all, []api.Box{bx(0, 30, 29, 50, 100, 40), bx(50, 30, 29, 100, 100, 40)}},
		{bx(0, 30, 89, 100, 100, 100), all, []api.Box{bx(0, 30, 89, 10, 100, 100), bx(10, 30, 89, 50, 100, 100), bx(50, 30, 89, 100, 100, 100)}},
		{bx(0, 30, 90, 100, 100, 100), all, []api.Box{bx(0, 30, 90, 10, 100, 100), bx(10, 30, 90, 100, 100, 100)}},
		{bx(0, 0, 20, 50, 30, 60), all, []api.Box{bx(0, 0, 20, 50, 30, 60)}},
		{bx(49, 29, 19, 51, 31, 21), all, []api.Box{bx(49, 29, 19, 50, 30, 20), bx(50, 29, 19, 51, 30, 20), bx(49, 30, 19, 50, 31, 20), bx(50, 30, 19, 51, 31, 20), bx(49, 29, 20, 50, 30, 21), bx(50, 29, 20, 51, 30, 21), bx(49, 30, 20, 50, 31, 21), bx(50, 30, 20, 51, 31, 21)}},
		{bx(49, 29, 19, 51, 31, 21), []api.Evidence{says(api.Sound, bx(0, 0, 0, 51, 31, 20)), says(api.Flawed, bx(49, 29, 19, 50, 30, 20)), says(api.Sound, bx(50, 30, 20, 60, 60, 60))}, []api.Box{bx(50, 29, 19, 51, 30, 20), bx(49, 30, 19, 50, 31, 20), bx(50, 30, 19, 51, 31, 20), bx(50, 30, 20, 51, 31, 21)}},
		{bx(0, 0, 0, 100, 100, 90), nil, nil},
		{bx(0, 0, 0, 100, 100, 90), []api.Evidence{says(api.Flawed, s.Pit)}, nil},
		{bx(0, 0, 0, 100, 100, 90), append(all, says(api.Flawed, bx(0, 0, 0, 100, 100, 61))), []api.Box{}},
		{bx(0, 0, 0, 100, 100, 90), append(all, says(api.Flawed, bx(0, 0, 0, 51, 31, 60))), []api.Box{bx(0, 0, 60, 50, 30, 90), bx(50, 0, 60, 100, 30, 90), bx(0, 30, 60, 50, 100, 90), bx(50, 30, 60, 100, 100, 90)}},
	} {
		if parts, e := sound.Pieces(s, c.list, c.b); !slices.Equal(parts, c.want) || e != api.OK {
			t.Errorf("Pieces of %v with %v: %v, %d, not %v", c.b, c.list, parts, e, c.want)
		}
	}
	// A flaw takes those parts that it overlaps.
	s.Flaws = []api.Flaw{flaw("f", 0, 60, poly(30, 0, 50, 0, 50, 30)), flaw("g", 30, 90, poly(40, 30, 60, 30, 50, 40))}
	if parts, e := sound.Pieces(s, all, bx(0, 0, 0, 100, 100, 90)); !slices.Equal(parts, []api.Box{bx(50, 0, 0, 100, 30, 20), bx(0, 30, 0, 50, 100, 20), bx(50, 30, 0, 100, 100, 20), bx(50, 0, 20, 100, 30, 60), bx(0, 0, 60, 50, 30, 90), bx(50, 0, 60, 100, 30, 90)}) || e != api.OK {
		t.Errorf("Pieces with flaws: %v, %d", parts, e)
	}
}

// fullest has as many beds, joints, flaws and pieces of evidence as possible: a grid of 65 parts on each axis.
func fullest() (api.Survey, []api.Evidence) {
	s := api.Survey{Pit: whole}
	for i := range api.MaxBeds {
		s.Beds = append(s.Beds, api.Bed{Name: fmt.Sprintf("z%d", 99-i), Z: 1000 * i})
	}
	for i := range api.MaxJoints {
		s.Joints = append(s.Joints, api.Joint{Name: fmt.Sprintf("j%03d", i), Axis: i % 2, At: 1000 * (i / 2), Lo: -top, Hi: top})
	}
	for i := range api.MaxFlaws {
		// One of the parts between the coordinates i and i + 1 of each axis, but for the last one, which lies beyond them.
		low := 1000 * i
		s.Flaws = append(s.Flaws, flaw(fmt.Sprintf("f%02d", i), low, low+1, poly(low, low, low+1000, low, low, low+1000)))
	}
	list := []api.Evidence{says(api.Sound, whole)}
	for len(list) < api.MaxEvidence {
		i := len(list)
		list = append(list, says(api.Sound, bx(-i, -i, -i, top-i, top-i, top-i)))
	}
	return s, list
}

func TestFullestPieces(t *testing.T) {
	s, list := fullest()
	parts, e := sound.Pieces(s, list, whole)
	if len(parts) != 65*65*65-64 || e != api.OK {
		t.Errorf("%d parts, %d", len(parts), e)
	}
	if !slices.IsSortedFunc(parts, func(a, b api.Box) int {
		return slices.Compare([]int{a.Min.Z, a.Min.Y, a.Min.X}, []int{b.Min.Z, b.Min.Y, b.Min.X})
	}) {
		t.Error("the parts are not in order")
	}
	volume := int64(0)
	for _, p := range parts {
		v, _ := box.Volume(p)
		volume += v
	}
	if want := int64(8*top*top*top) - 63*1000*1000*1000 - (top-63000)*(top-63000)*(top-63000); volume != want {
		t.Errorf("the volume of the parts is %d, not %d", volume, want)
	}
	// What is flawed at the upper end of each layer but the last one leaves that one.
	list[api.MaxEvidence-1] = says(api.Sound, whole)
	for i := range 64 {
		list[i] = says(api.Flawed, bx(-top, -top, 1000*i-1, top, top, 1000*i))
	}
	if parts, e := sound.Pieces(s, list, whole); len(parts) != 65*65-1 || e != api.OK || parts[0].Min.Z != 63000 {
		t.Errorf("%d parts, %d", len(parts), e)
	}
	list[64] = says(api.Flawed, bx(-top, -top, top-1, top, top, top))
	if parts, e := sound.Pieces(s, list, whole); len(parts) != 0 || e != api.OK {
		t.Errorf("%d parts, %d", len(parts), e)
	}
	if w, e := sound.Find(s, list, bx(0, 0, 0, 1, 1, 1000)); w != (sound.Witness{Kind: sound.Cell, Cell: pt(0, 0, 999), State: api.Clash}) || e != api.OK {
		t.Errorf("Find: %v, %d", w, e)
	}
}

func TestNothingIsChanged(t *testing.T) {
	s, list := rich()
	// The lists have room behind them, in which nothing may be written.
	s.Beds, s.Joints, s.Flaws, list = append(s.Beds, api.Bed{Name: "x"})[:3], append(s.Joints, api.Joint{Name: "x"})[:3], append(s.Flaws, api.Flaw{Name: "x"})[:3], append(list, says(7, whole))[:3]
	for _, call := range calls(api.AxisX) {
		call(s, list, s.Pit)
		call(s, list, bx(30, 40, 40, 100, 80, 60))
	}
	first, _ := sound.Pieces(s, list, bx(-10, 0, -20, 100, 80, 60))
	second, _ := sound.Pieces(s, list, bx(-10, 0, -20, 100, 80, 60))
	kept := slices.Clone(second)
	for i := range first {
		first[i] = api.Box{}
	}
	if !slices.Equal(second, kept) {
		t.Error("results share memory")
	}
	wantSurvey, wantList := rich()
	if !reflect.DeepEqual(s, wantSurvey) || !slices.Equal(list, wantList) || s.Beds[:4][3].Name != "x" || s.Joints[:4][3].Name != "x" || s.Flaws[:4][3].Name != "x" || list[:4][3].State != 7 {
		t.Error("the arguments are changed")
	}
}
