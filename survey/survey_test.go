package survey_test

import (
	"fmt"
	"math"
	"math/rand"
	"reflect"
	"slices"
	"sort"
	"testing"

	"gangsaw/api"
	"gangsaw/box"
	"gangsaw/polygon"
	"gangsaw/prism"
	"gangsaw/survey"
)

const top = api.MaxCoord

func at(x, y int) api.Point {
	return api.Point{X: x, Y: y}
}

// poly returns the polygon with the corners x0, y0, x1, y1 ..
func poly(numbers ...int) api.Polygon {
	var p api.Polygon
	for i := 0; i < len(numbers); i += 2 {
		p = append(p, at(numbers[i], numbers[i+1]))
	}
	return p
}

// bowl returns n corners on a parabola, counterclockwise from the least one on.
func bowl(n int) api.Polygon {
	var p api.Polygon
	for x := range n {
		p = append(p, at(x, x*x))
	}
	return p
}

// bx returns the box from the first three numbers to the last three.
func bx(x, y, z, toX, toY, toZ int) api.Box {
	return api.Box{Min: api.Vec{X: x, Y: y, Z: z}, Max: api.Vec{X: toX, Y: toY, Z: toZ}}
}

// example is the survey of the chapter's examples.
func example() api.Survey {
	return api.Survey{Pit: bx(0, 0, 0, 100, 100, 100), Beds: []api.Bed{{Name: "b", Z: 50}}, Joints: []api.Joint{{Name: "j", Axis: api.AxisX, At: 30, Hi: 60}}}
}

// rich has several of all that a survey can have.
func rich() api.Survey {
	return api.Survey{
		Pit: bx(-10, 0, -20, 110, 90, 80), Open: [4]bool{true, false, false, true},
		Beds:   []api.Bed{{Name: "upper", Z: 10}, {Name: "lower", Z: 30}, {Name: "b3", Z: 31}},
		Joints: []api.Joint{{Name: "j1", Axis: api.AxisX, At: 30, Hi: 60}, {Name: "j2", Axis: api.AxisY, At: 30, Lo: -20, Hi: 80}, {Name: "k", Axis: api.AxisY, At: 40, Lo: 5, Hi: 6}},
		Flaws: []api.Flaw{
			{Name: "f1", Prism: api.Prism{Base: poly(0, 0, 10, 0, 0, 10), Hi: 5}}, {Name: "f2", Prism: api.Prism{Base: poly(20, 20, 30, 20, 30, 30, 20, 30), Lo: -20, Hi: 80}},
			{Name: "g", Prism: api.Prism{Base: bowl(9), Lo: 7, Hi: 8}},
		},
	}
}

// full has as many beds, joints and flaws as possible, in the greatest pit.
func full() api.Survey {
	s := api.Survey{Pit: bx(-top, -top, -top, top, top, top), Open: [4]bool{true, true, true, true}}
	for i := range api.MaxBeds {
		s.Beds = append(s.Beds, api.Bed{Name: fmt.Sprintf("z%d", 99-i), Z: i - 30})
	}
	for i := range api.MaxJoints {
		s.Joints = append(s.Joints, api.Joint{Name: fmt.Sprintf("j%03d", i), Axis: i % 2, At: i, Lo: -top, Hi: top})
	}
	for i := range api.MaxFlaws {
		s.Flaws = append(s.Flaws, api.Flaw{Name: fmt.Sprintf("f%02d", i), Prism: api.Prism{Base: bowl(api.MaxCorners), Lo: -top, Hi: top}})
	}
	return s
}

// tight has all things at the very ends of the pit.
func tight() api.Survey {
	return api.Survey{
		Pit: bx(-2, -2, -2, 3, 3, 3), Open: [4]bool{false, true, true, false},
		Beds:   []api.Bed{{Name: "low", Z: -2}, {Name: "high", Z: 3}},
		Joints: []api.Joint{{Name: "east", Axis: api.AxisX, At: 3, Lo: -2, Hi: 3}, {Name: "north", Axis: api.AxisY, At: 3, Lo: 2, Hi: 3}, {Name: "south", Axis: api.AxisY, At: -2, Lo: -2, Hi: -1}, {Name: "west", Axis: api.AxisX, At: -2, Lo: -2, Hi: 3}},
		Flaws:  []api.Flaw{{Name: "all", Prism: api.Prism{Base: poly(-2, -2, 3, -2, 3, 3, -2, 3), Lo: -2, Hi: 3}}, {Name: "half", Prism: api.Prism{Base: poly(3, 3, -2, 3, 3, -2), Lo: 2, Hi: 3}}},
	}
}

func goodSurveys() []api.Survey {
	return []api.Survey{example(), rich(), full(), tight(), {Pit: bx(0, 0, 0, 1, 1, 1)}, {Pit: bx(top-1, -top, 5, top, 1-top, 6), Open: [4]bool{false, true}}}
}

// calls has the functions of a survey and a box; each tells its error, and whether its other results are zero values.
func calls() map[string]func(api.Survey, api.Box, int) (api.Errno, bool) {
	return map[string]func(api.Survey, api.Box, int) (api.Errno, bool){
		"Check": func(s api.Survey, _ api.Box, _ int) (api.Errno, bool) { return survey.Check(s), true },
		"Through": func(s api.Survey, b api.Box, _ int) (api.Errno, bool) {
			names, e := survey.Through(s, b)
			return e, len(names) == 0
		},
		"Flaws": func(s api.Survey, b api.Box, _ int) (api.Errno, bool) {
			names, e := survey.Flaws(s, b)
			return e, len(names) == 0
		},
		"Open": func(s api.Survey, b api.Box, side int) (api.Errno, bool) {
			is, e := survey.Open(s, b, side)
			return e, !is
		},
		"Jointed": func(s api.Survey, b api.Box, side int) (api.Errno, bool) {
			set, e := survey.Jointed(s, b, side)
			return e, len(set) == 0
		},
		"Line": func(s api.Survey, _ api.Box, _ int) (api.Errno, bool) {
			l, e := survey.Line(s)
			return e, len(l.Tokens) == 0 && !l.Heading && len(l.Kids) == 0 && l.At == 0
		},
	}
}

// wantErrors calls everything with a survey that is not valid, also with a box and a side that are none.
func wantErrors(t *testing.T, s api.Survey, want api.Errno) {
	t.Helper()
	for name, call := range calls() {
		for _, side := range []int{0, 3, 4} {
			if e, zero := call(s, bx(1, 1, 1, 0, 2, 2), side); e != want || !zero {
				t.Errorf("%s of %v: %d (other results zero: %v), not %d", name, s, e, zero, want)
			}
		}
	}
}

func TestSignatures(t *testing.T) {
	var (
		_ func(api.Survey) api.Errno                                 = survey.Check
		_ func(api.Survey, api.Box) ([]string, api.Errno)            = survey.Through
		_ func(api.Survey, api.Box) ([]string, api.Errno)            = survey.Flaws
		_ func(api.Survey, int) bool                                 = survey.Bedded
		_ func(api.Survey, api.Box, int) (bool, api.Errno)           = survey.Open
		_ func(api.Survey, api.Box, int) ([]api.Interval, api.Errno) = survey.Jointed
		_ func(api.Line) (api.Survey, api.Fault)                     = survey.Load
		_ func(api.Survey) (api.Line, api.Errno)                     = survey.Line
		_ func(a, b api.Survey) bool                                 = survey.Equal
	)
}

func TestGoodSurveys(t *testing.T) {
	for i, s := range goodSurveys() {
		if e := survey.Check(s); e != api.OK {
			t.Errorf("Check of survey %d: %d", i, e)
		}
	}
}

// defect makes a survey wrong in one way, the second one of its parts if there are several.
type defect struct {
	code  api.Errno
	spoil func(s *api.Survey, second int)
}

// defects are ordered like the errors of Check.
func defects() [][]defect {
	many := []defect{
		{api.ErrTooMany, func(s *api.Survey, _ int) { s.Beds = append(s.Beds, make([]api.Bed, api.MaxBeds+1-len(s.Beds))...) }},
		{api.ErrTooMany, func(s *api.Survey, _ int) {
			s.Joints = append(s.Joints, make([]api.Joint, api.MaxJoints+1-len(s.Joints))...)
		}},
		{api.ErrTooMany, func(s *api.Survey, _ int) { s.Flaws = append(s.Flaws, make([]api.Flaw, 5000)...) }},
	}
	var far, flat, names, outside []defect
	for _, n := range []int{top + 1, -top - 1, math.MaxInt, math.MinInt} {
		far = append(far, defect{api.ErrRange, func(s *api.Survey, _ int) { s.Pit.Min.X = n }}, defect{api.ErrRange, func(s *api.Survey, _ int) { s.Pit.Min.Y = n }}, defect{api.ErrRange, func(s *api.Survey, _ int) { s.Pit.Min.Z = n }},
			defect{api.ErrRange, func(s *api.Survey, _ int) { s.Pit.Max.X = n }}, defect{api.ErrRange, func(s *api.Survey, _ int) { s.Pit.Max.Y = n }}, defect{api.ErrRange, func(s *api.Survey, _ int) { s.Pit.Max.Z = n }})
	}
	for _, by := range []int{0, -1, -50} {
		flat = append(flat, defect{api.ErrInvalid, func(s *api.Survey, _ int) { s.Pit.Max.X = s.Pit.Min.X + by }}, defect{api.ErrInvalid, func(s *api.Survey, _ int) { s.Pit.Max.Y = s.Pit.Min.Y + by }}, defect{api.ErrInvalid, func(s *api.Survey, _ int) { s.Pit.Max.Z = s.Pit.Min.Z + by }})
	}
	for _, name := range []string{"", "A", "9", "_a", "a b", "aB", "ä", "a-b", "abcdefghijklmnopqrstuvwxy"} {
		names = append(names, defect{api.ErrName, func(s *api.Survey, i int) { s.Beds[i].Name = name }}, defect{api.ErrName, func(s *api.Survey, i int) { s.Joints[i].Name = name }}, defect{api.ErrName, func(s *api.Survey, i int) { s.Flaws[i].Name = name }})
	}
	invalid := []defect{{api.ErrInvalid, func(s *api.Survey, i int) { s.Joints[i].Lo = s.Joints[i].Hi }}, {api.ErrInvalid, func(s *api.Survey, i int) { s.Joints[i].Hi = math.MinInt }}, {api.ErrInvalid, func(s *api.Survey, i int) { s.Flaws[i].Prism.Hi = s.Flaws[i].Prism.Lo }}, {api.ErrInvalid, func(s *api.Survey, i int) { s.Flaws[i].Prism.Lo = math.MaxInt }}}
	for _, axis := range []int{api.AxisZ, 3, -1, math.MinInt, math.MaxInt} {
		invalid = append(invalid, defect{api.ErrInvalid, func(s *api.Survey, i int) { s.Joints[i].Axis = axis }})
	}
	// The base that comes first has the error, so the first of two is spoiled by other parts.
	bases := []defect{{api.ErrTooMany, baseOf(bowl(api.MaxCorners + 1))}, {api.ErrInvalid, baseOf(nil)}, {api.ErrInvalid, baseOf(poly(1, 1, 2, 2))}, {api.ErrRange, baseOf(poly(0, 0, top+1, 0, 0, 1))}, {api.ErrRange, baseOf(poly(0, 0, 1, 0, 1, math.MinInt))}, {api.ErrDuplicate, baseOf(poly(0, 0, 0, 0, 9, 0, 0, 9))}, {api.ErrDuplicate, baseOf(poly(0, 0, 9, 0, 0, 9, 0, 0))}}
	concave := []defect{{api.ErrConflict, baseOf(poly(0, 0, 0, 9, 9, 0))}, {api.ErrConflict, baseOf(poly(0, 0, 5, 0, 9, 0, 0, 9))}, {api.ErrConflict, baseOf(poly(0, 0, 9, 0, 3, 3, 0, 9))}, {api.ErrConflict, baseOf(poly(0, 0, 9, 9, 9, 0, 0, 9))}, {api.ErrConflict, baseOf(poly(0, 10, 2, 3, 10, 3, 4, 0, 6, 9))}, {api.ErrConflict, baseOf(slices.Concat(bowl(5), bowl(5)))}, {api.ErrConflict, baseOf(polygon.Reverse(bowl(9)))}}
	for _, n := range []int{1, 1000, top, math.MaxInt - 200} {
		outside = append(outside,
			defect{api.ErrOutside, func(s *api.Survey, i int) { s.Beds[i].Z = s.Pit.Max.Z + n }}, defect{api.ErrOutside, func(s *api.Survey, i int) { s.Beds[i].Z = s.Pit.Min.Z - n }},
			defect{api.ErrOutside, func(s *api.Survey, i int) { s.Joints[i].Axis, s.Joints[i].At = api.AxisX, s.Pit.Max.X+n }}, defect{api.ErrOutside, func(s *api.Survey, i int) { s.Joints[i].Axis, s.Joints[i].At = api.AxisX, s.Pit.Min.X-n }},
			defect{api.ErrOutside, func(s *api.Survey, i int) { s.Joints[i].Axis, s.Joints[i].At = api.AxisY, s.Pit.Max.Y+n }}, defect{api.ErrOutside, func(s *api.Survey, i int) { s.Joints[i].Axis, s.Joints[i].At = api.AxisY, s.Pit.Min.Y-n }},
			defect{api.ErrOutside, func(s *api.Survey, i int) { s.Joints[i].Lo = s.Pit.Min.Z - n }}, defect{api.ErrOutside, func(s *api.Survey, i int) { s.Joints[i].Hi = s.Pit.Max.Z + n }},
			defect{api.ErrOutside, func(s *api.Survey, i int) { s.Flaws[i].Prism.Lo = s.Pit.Min.Z - n }}, defect{api.ErrOutside, func(s *api.Survey, i int) { s.Flaws[i].Prism.Hi = s.Pit.Max.Z + n }})
	}
	outside = append(outside, defect{api.ErrOutside, baseOf(poly(109, 0, 111, 0, 109, 9))}, defect{api.ErrOutside, baseOf(poly(-11, 5, 0, 0, 0, 9))}, defect{api.ErrOutside, baseOf(poly(0, 0, 9, 0, 0, 91))}, defect{api.ErrOutside, baseOf(poly(0, 0, 5, -1, 9, 0))}, defect{api.ErrOutside, baseOf(poly(top-1, top-1, top, top-1, top, top))})
	twice := []defect{
		{api.ErrDuplicate, func(s *api.Survey, i int) { s.Beds[i].Z = s.Beds[i+1].Z }}, {api.ErrDuplicate, func(s *api.Survey, i int) { s.Beds[i], s.Beds[i+1] = s.Beds[i+1], s.Beds[i] }},
		{api.ErrDuplicate, func(s *api.Survey, i int) { s.Joints[i], s.Joints[i+1] = s.Joints[i+1], s.Joints[i] }}, {api.ErrDuplicate, func(s *api.Survey, i int) { s.Flaws[i], s.Flaws[i+1] = s.Flaws[i+1], s.Flaws[i] }},
		{api.ErrDuplicate, func(s *api.Survey, i int) { s.Beds[i].Name = s.Beds[i+1].Name }}, {api.ErrDuplicate, func(s *api.Survey, i int) { s.Joints[i].Name = s.Joints[i+1].Name }}, {api.ErrDuplicate, func(s *api.Survey, i int) { s.Flaws[i].Name = s.Flaws[i+1].Name }},
		{api.ErrDuplicate, func(s *api.Survey, i int) { s.Beds[i].Name = s.Joints[1].Name }}, {api.ErrDuplicate, func(s *api.Survey, i int) { s.Beds[i].Name = s.Flaws[1].Name }}, {api.ErrDuplicate, func(s *api.Survey, i int) { s.Beds[0].Name = s.Beds[2].Name }},
		{api.ErrDuplicate, func(s *api.Survey, i int) { s.Joints[2].Name, s.Flaws[2].Name = "z", "z" }}, {api.ErrDuplicate, func(s *api.Survey, i int) { s.Joints[0].Name = "z" }}, {api.ErrDuplicate, func(s *api.Survey, i int) { s.Flaws[2].Name = "a" }},
	}
	return [][]defect{many, far, flat, names, invalid, bases, concave, outside, twice}
}

func baseOf(base api.Polygon) func(s *api.Survey, second int) {
	return func(s *api.Survey, second int) { s.Flaws[second].Prism.Base = base }
}

// TestErrorsOfCheck has each defect alone, and all pairs of defects of different kinds: the first kind counts.
func TestErrorsOfCheck(t *testing.T) {
	kinds := defects()
	for i, kind := range kinds {
		for k, d := range kind {
			for second := range 2 {
				s := rich()
				d.spoil(&s, second)
				if e := survey.Check(s); e != d.code {
					t.Errorf("defect %d of kind %d: %d, not %d", k, i, e, d.code)
				}
				if second == 0 {
					wantErrors(t, s, d.code)
				}
			}
			for _, later := range slices.Concat(kinds[i+1:]...) {
				s := rich()
				later.spoil(&s, 0)
				d.spoil(&s, 1)
				if e := survey.Check(s); e != d.code {
					t.Errorf("defect %d of kind %d before one with %d: %d, not %d", k, i, later.code, e, d.code)
				}
			}
		}
	}
	// Of two bases the first one counts, whatever its error is.
	for _, d := range kinds[5] {
		for _, other := range kinds[5] {
			s := rich()
			d.spoil(&s, 0)
			other.spoil(&s, 1)
			if e := survey.Check(s); e != d.code {
				t.Errorf("two bases with errors: %d, not %d", e, d.code)
			}
		}
	}
}

func TestLimitsOfCheck(t *testing.T) {
	for _, more := range []func(s *api.Survey){
		func(s *api.Survey) { s.Beds = append(s.Beds, api.Bed{Name: "more", Z: 1000}) },
		func(s *api.Survey) { s.Joints = append(s.Joints, api.Joint{Name: "more", At: 1, Hi: 1}) },
		func(s *api.Survey) {
			s.Flaws = append(s.Flaws, api.Flaw{Name: "more", Prism: api.Prism{Base: bowl(3), Hi: 1}})
		},
	} {
		s := full()
		more(&s)
		wantErrors(t, s, api.ErrTooMany)
		s = rich()
		more(&s)
		if s.Beds[len(s.Beds)-1].Z > s.Pit.Max.Z {
			continue
		}
		if e := survey.Check(s); e != api.OK {
			t.Errorf("Check with one more: %d", e)
		}
	}
	wantErrors(t, api.Survey{}, api.ErrInvalid)
	for _, name := range []string{"abcdefghijklmnopqrstuvwx", "zzzzzzzzzzzzzzzzzzzzzzzz", "z", "z_9", "a0"} {
		s := rich()
		s.Joints[2].Name = name
		s.Joints = s.Joints[2:]
		if e := survey.Check(s); e != api.OK {
			t.Errorf("the name %s: %d", name, e)
		}
	}
}

// TestConvexBases holds the errors of bases against chapter 5, for all with 3 to 5 corners on a grid of 3 x 3 points.
func TestConvexBases(t *testing.T) {
	s := api.Survey{Pit: bx(0, 0, 0, 9, 9, 9), Flaws: []api.Flaw{{Name: "f", Prism: api.Prism{Hi: 1}}}}
	var extend func(base api.Polygon)
	extend = func(base api.Polygon) {
		if len(base) >= 3 {
			s.Flaws[0].Prism.Base = base
			want := polygon.Check(base)
			if convex, e := polygon.Convex(base); e == api.OK && !convex {
				want = api.ErrConflict
			}
			if e := survey.Check(s); e != want {
				t.Errorf("the base %v: %d, not %d", base, e, want)
			}
		}
		for i := 0; i < 9 && len(base) < 5; i++ {
			extend(append(base, at(i/3, i%3)))
		}
	}
	extend(nil)
}

func TestErrorsOfBoxes(t *testing.T) {
	s := rich()
	within := bx(-10, 0, -20, 110, 90, 80)
	for name, call := range calls() {
		if name == "Check" || name == "Line" {
			continue
		}
		for _, c := range []struct {
			b    api.Box
			want api.Errno
		}{
			{within, api.OK}, {bx(0, 0, 0, 1, 1, 1), api.OK}, {bx(109, 89, 79, 110, 90, 80), api.OK}, {bx(-10, 0, -20, -9, 1, -19), api.OK},
			{api.Box{}, api.ErrInvalid}, {bx(0, 0, 0, 0, 1, 1), api.ErrInvalid}, {bx(0, 0, 0, 1, 0, 1), api.ErrInvalid}, {bx(0, 0, 0, 1, 1, 0), api.ErrInvalid}, {bx(5, 0, 0, 4, 1, 1), api.ErrInvalid}, {bx(0, 500, 0, 1, 499, 1), api.ErrInvalid}, {bx(-99, -99, 99, 999, 999, 98), api.ErrInvalid},
			{bx(math.MaxInt, 0, 0, math.MinInt, 1, 1), api.ErrInvalid}, {bx(0, top+2, 0, 1, top+1, 1), api.ErrInvalid}, {bx(math.MinInt, 0, 0, math.MinInt, 1, 1), api.ErrInvalid},
			{bx(-11, 0, 0, 1, 1, 1), api.ErrOutside}, {bx(0, -1, 0, 1, 1, 1), api.ErrOutside}, {bx(0, 0, -21, 1, 1, 1), api.ErrOutside}, {bx(0, 0, 0, 111, 1, 1), api.ErrOutside}, {bx(0, 0, 0, 1, 91, 1), api.ErrOutside}, {bx(0, 0, 0, 1, 1, 81), api.ErrOutside}, {bx(110, 0, 0, 111, 1, 1), api.ErrOutside}, {bx(0, 0, -21, 1, 1, -20), api.ErrOutside},
			{bx(math.MinInt, math.MinInt, math.MinInt, math.MaxInt, math.MaxInt, math.MaxInt), api.ErrOutside}, {bx(0, 0, 0, 1, 1, math.MaxInt), api.ErrOutside}, {bx(top, top, top, top+1, top+1, top+1), api.ErrOutside},
		} {
			for side := range 4 {
				if e, zero := call(s, c.b, side); e != c.want || e != api.OK && !zero {
					t.Errorf("%s of the box %v: %d (other results zero: %v), not %d", name, c.b, e, zero, c.want)
				}
			}
			for _, side := range []int{-1, 4, 5, 6, math.MaxInt, math.MinInt} {
				if e, zero := call(s, c.b, side); (name == "Open" || name == "Jointed") && (e != api.ErrRange || !zero) {
					t.Errorf("%s of the side %d of the box %v: %d (other results zero: %v)", name, side, c.b, e, zero)
				}
			}
		}
	}
}

func TestExamples(t *testing.T) {
	s := example()
	for _, c := range []struct {
		b    api.Box
		want []string
	}{
		{bx(0, 0, 40, 50, 50, 60), []string{"b", "j"}}, {bx(30, 0, 50, 50, 50, 60), nil}, {bx(0, 0, 60, 50, 50, 70), nil}, {bx(0, 0, 59, 50, 50, 70), []string{"j"}}, {bx(29, 0, 0, 31, 1, 1), []string{"j"}}, {bx(29, 0, 0, 30, 1, 1), nil},
		{bx(0, 0, 0, 100, 100, 100), []string{"b", "j"}}, {bx(0, 0, 49, 30, 100, 51), []string{"b"}}, {bx(0, 0, 50, 30, 100, 51), nil}, {bx(0, 0, 49, 30, 100, 50), nil}, {bx(40, 0, 49, 41, 1, 51), []string{"b"}},
	} {
		if names, e := survey.Through(s, c.b); !slices.Equal(names, c.want) || e != api.OK {
			t.Errorf("Through of %v: %q, %d, not %q", c.b, names, e, c.want)
		}
	}
	if z, e := survey.Jointed(s, bx(30, 0, 40, 50, 50, 70), api.MinusX); !slices.Equal(z, []api.Interval{{Lo: 40, Hi: 59}}) || e != api.OK {
		t.Errorf("Jointed: %v, %d", z, e)
	}
	for _, side := range []int{api.PlusX, api.PlusY, api.MinusY} {
		if z, e := survey.Jointed(s, bx(30, 0, 40, 50, 50, 70), side); len(z) > 0 || e != api.OK {
			t.Errorf("Jointed of the side %d: %v, %d", side, z, e)
		}
	}
	// Two joints in a row count as one, and so do two that overlap; a gap does not.
	s.Joints = []api.Joint{{Name: "a", At: 30, Lo: 10, Hi: 20}, {Name: "b1", At: 30, Lo: 20, Hi: 30}, {Name: "c", At: 30, Lo: 25, Hi: 40}, {Name: "d", At: 30, Lo: 41, Hi: 50}, {Name: "e", At: 31, Lo: 40, Hi: 41}, {Name: "f", Axis: api.AxisY, At: 30, Lo: 40, Hi: 41}, {Name: "g", At: 30, Lo: 50, Hi: 51}, {Name: "h", At: 30, Lo: 53, Hi: 100}}
	if z, e := survey.Jointed(s, bx(0, 0, 5, 30, 50, 55), api.PlusX); !slices.Equal(z, []api.Interval{{Lo: 10, Hi: 39}, {Lo: 41, Hi: 50}, {Lo: 53, Hi: 54}}) || e != api.OK {
		t.Errorf("Jointed: %v, %d", z, e)
	}
	if z, e := survey.Jointed(s, bx(0, 0, 51, 30, 50, 53), api.PlusX); len(z) > 0 || e != api.OK {
		t.Errorf("Jointed of a gap: %v, %d", z, e)
	}
}

func TestFlaws(t *testing.T) {
	s := rich()
	for _, c := range []struct {
		b    api.Box
		want []string
	}{
		{s.Pit, []string{"f1", "f2", "g"}}, {bx(5, 5, 0, 9, 9, 5), nil}, {bx(4, 5, 0, 9, 9, 5), []string{"f1"}}, {bx(0, 0, 5, 10, 10, 7), nil}, {bx(0, 0, 4, 10, 10, 7), []string{"f1"}}, {bx(0, 0, 4, 10, 10, 8), []string{"f1", "g"}}, {bx(0, 0, 8, 9, 64, 9), nil},
		{bx(10, 20, 0, 20, 30, 9), []string{}}, {bx(10, 20, 0, 21, 30, 9), []string{"f2"}}, {bx(30, 30, 0, 40, 40, 9), nil}, {bx(29, 29, 79, 30, 30, 80), []string{"f2"}}, {bx(29, 29, -20, 30, 30, -19), []string{"f2"}}, {bx(-10, 0, -20, 0, 90, 80), nil},
	} {
		if names, e := survey.Flaws(s, c.b); !slices.Equal(names, c.want) || e != api.OK {
			t.Errorf("Flaws of %v: %q, %d, not %q", c.b, names, e, c.want)
		}
	}
}

func TestBedded(t *testing.T) {
	s := rich()
	for z, want := range map[int]bool{10: true, 30: true, 31: true, 9: false, 11: false, 32: false, 0: false, math.MaxInt: false} {
		if survey.Bedded(s, z) != want {
			t.Errorf("Bedded at %d", z)
		}
	}
	// Any survey has its beds.
	odd := api.Survey{Beds: []api.Bed{{Z: math.MaxInt}, {Name: "?", Z: -5}, {Z: math.MinInt}, {Z: -5}}}
	for z, want := range map[int]bool{math.MaxInt: true, math.MinInt: true, -5: true, 0: false, -4: false} {
		if survey.Bedded(odd, z) != want {
			t.Errorf("Bedded at %d", z)
		}
	}
	if survey.Bedded(api.Survey{}, 0) {
		t.Error("Bedded without beds")
	}
}

func TestEqual(t *testing.T) {
	changes := []func(s *api.Survey){
		func(s *api.Survey) { s.Pit.Min.X-- }, func(s *api.Survey) { s.Pit.Max.Z++ }, func(s *api.Survey) { s.Open[2] = true }, func(s *api.Survey) { s.Open[0] = false },
		func(s *api.Survey) { s.Beds[1].Name = "x" }, func(s *api.Survey) { s.Beds[2].Z++ }, func(s *api.Survey) { s.Beds = s.Beds[:2] }, func(s *api.Survey) { s.Beds = nil }, func(s *api.Survey) { s.Beds[0], s.Beds[1] = s.Beds[1], s.Beds[0] },
		func(s *api.Survey) { s.Joints[0].Name = "x" }, func(s *api.Survey) { s.Joints[1].Axis = 7 }, func(s *api.Survey) { s.Joints[2].At++ }, func(s *api.Survey) { s.Joints[0].Lo-- }, func(s *api.Survey) { s.Joints[1].Hi++ }, func(s *api.Survey) { s.Joints = append(s.Joints, api.Joint{}) },
		func(s *api.Survey) { s.Flaws[0].Name = "" }, func(s *api.Survey) { s.Flaws[1].Prism.Lo++ }, func(s *api.Survey) { s.Flaws[2].Prism.Hi++ }, func(s *api.Survey) { s.Flaws = s.Flaws[1:] }, func(s *api.Survey) { s.Flaws[0].Prism.Base[1].Y++ }, func(s *api.Survey) { s.Flaws[0].Prism.Base = nil }, func(s *api.Survey) { s.Flaws[1].Prism.Base = append(s.Flaws[1].Prism.Base, at(0, 0)) },
		func(s *api.Survey) { s.Flaws[1].Prism.Base = poly(20, 30, 20, 20, 30, 20, 30, 30) }, func(s *api.Survey) { *s = api.Survey{} },
	}
	for i, change := range changes {
		s := rich()
		change(&s)
		if survey.Equal(s, rich()) || survey.Equal(rich(), s) || !survey.Equal(s, s) {
			t.Errorf("Equal of change %d", i)
		}
	}
	if !survey.Equal(rich(), rich()) || !survey.Equal(full(), full()) {
		t.Error("Equal of equal surveys")
	}
	empty := api.Survey{Beds: []api.Bed{}, Joints: []api.Joint{}, Flaws: []api.Flaw{}}
	if !survey.Equal(empty, api.Survey{}) || !survey.Equal(api.Survey{Flaws: []api.Flaw{{Prism: api.Prism{Base: api.Polygon{}}}}}, api.Survey{Flaws: []api.Flaw{{}}}) {
		t.Error("Equal of lists without elements")
	}
}

// someSurvey makes a valid survey of a small pit.
func someSurvey(random *rand.Rand, size int) api.Survey {
	x, y, z := random.Intn(9)-4, random.Intn(9)-4, random.Intn(9)-4
	s := api.Survey{Pit: bx(x, y, z, x+1+random.Intn(size), y+1+random.Intn(size), z+1+random.Intn(size))}
	for i := range s.Open {
		s.Open[i] = random.Intn(2) == 0
	}
	between := func(lo, hi int) int { return lo + random.Intn(hi-lo+1) }
	names := random.Perm(40)
	name := func() string {
		names = names[1:]
		return fmt.Sprintf("n%02d", names[0])
	}
	heights := func() (int, int) {
		lo := between(s.Pit.Min.Z, s.Pit.Max.Z-1)
		return lo, between(lo+1, s.Pit.Max.Z)
	}
	for z := s.Pit.Min.Z; z <= s.Pit.Max.Z; z++ {
		if random.Intn(3) == 0 {
			s.Beds = append(s.Beds, api.Bed{Name: name(), Z: z})
		}
	}
	for range random.Intn(6) {
		j := api.Joint{Name: name(), Axis: random.Intn(2), At: between(s.Pit.Min.X, s.Pit.Max.X)}
		if j.Axis == api.AxisY {
			j.At = between(s.Pit.Min.Y, s.Pit.Max.Y)
		}
		j.Lo, j.Hi = heights()
		s.Joints = append(s.Joints, j)
	}
	for range random.Intn(4) {
		var points []api.Point
		for range 3 + random.Intn(4) {
			points = append(points, at(between(s.Pit.Min.X, s.Pit.Max.X), between(s.Pit.Min.Y, s.Pit.Max.Y)))
		}
		if base, e := polygon.Hull(points); e == api.OK {
			f := api.Flaw{Name: name(), Prism: api.Prism{Base: base}}
			f.Prism.Lo, f.Prism.Hi = heights()
			s.Flaws = append(s.Flaws, f)
		}
	}
	sort.Slice(s.Joints, func(i, k int) bool { return s.Joints[i].Name < s.Joints[k].Name })
	sort.Slice(s.Flaws, func(i, k int) bool { return s.Flaws[i].Name < s.Flaws[k].Name })
	return s
}

// boxesOf are all boxes of a pit.
func boxesOf(pit api.Box) []api.Box {
	var list []api.Box
	for x := pit.Min.X; x < pit.Max.X; x++ {
		for y := pit.Min.Y; y < pit.Max.Y; y++ {
			for z := pit.Min.Z; z < pit.Max.Z; z++ {
				for toX := x + 1; toX <= pit.Max.X; toX++ {
					for toY := y + 1; toY <= pit.Max.Y; toY++ {
						for toZ := z + 1; toZ <= pit.Max.Z; toZ++ {
							list = append(list, bx(x, y, z, toX, toY, toZ))
						}
					}
				}
			}
		}
	}
	return list
}

// slowThrough looks for two neighbouring cells of the box with a bed or a joint between them.
func slowThrough(s api.Survey, b api.Box) []string {
	var names []string
	add := func(name string, axis, at, lo, hi int) {
		for z := b.Min.Z; z < b.Max.Z; z++ {
			for y := b.Min.Y; y < b.Max.Y; y++ {
				for x := b.Min.X; x < b.Max.X; x++ {
					cell, before := [3]int{x, y, z}, [3]int{x, y, z}
					before[axis]--
					if lo <= z && z < hi && cell[axis] == at && box.Has(b, api.Vec{X: before[0], Y: before[1], Z: before[2]}) && !slices.Contains(names, name) {
						names = append(names, name)
					}
				}
			}
		}
	}
	for _, bed := range s.Beds {
		add(bed.Name, api.AxisZ, bed.Z, -top, top)
	}
	for _, j := range s.Joints {
		add(j.Name, j.Axis, j.At, j.Lo, j.Hi)
	}
	sort.Strings(names)
	return names
}

func slowFlaws(s api.Survey, b api.Box) []string {
	var names []string
	for _, f := range s.Flaws {
		if overlaps, _ := prism.Overlaps(f.Prism, b); overlaps {
			names = append(names, f.Name)
		}
	}
	return names
}

// beside is the box moved by one step in a direction.
func beside(b api.Box, side int) api.Box {
	by := []api.Vec{{X: 1}, {X: -1}, {Y: 1}, {Y: -1}}[side]
	moved, _ := box.Move(b, by)
	return moved
}

// slowJointed looks at each z for joints, and builds the intervals step by step.
func slowJointed(s api.Survey, b api.Box, side int) []api.Interval {
	var set []api.Interval
	for z := b.Min.Z; z < b.Max.Z; z++ {
		jointed := false
		for _, j := range s.Joints {
			at := []int{b.Max.X, b.Min.X, b.Max.Y, b.Min.Y}[side]
			jointed = jointed || j.Axis == []int{api.AxisX, api.AxisX, api.AxisY, api.AxisY}[side] && j.At == at && j.Lo <= z && z < j.Hi
		}
		if last := len(set) - 1; jointed && last >= 0 && set[last].Hi == z-1 {
			set[last].Hi = z
		} else if jointed {
			set = append(set, api.Interval{Lo: z, Hi: z})
		}
	}
	return set
}

func TestSmallSurveysAgainstSlowOnes(t *testing.T) {
	random := rand.New(rand.NewSource(7))
	for range 150 {
		s := someSurvey(random, 4)
		if e := survey.Check(s); e != api.OK {
			t.Fatalf("Check of %v: %d", s, e)
		}
		for _, b := range boxesOf(s.Pit) {
			if names, e := survey.Through(s, b); !slices.Equal(names, slowThrough(s, b)) || e != api.OK {
				t.Errorf("Through of %v in %v: %q, %d, not %q", b, s, names, e, slowThrough(s, b))
			}
			if names, e := survey.Flaws(s, b); !slices.Equal(names, slowFlaws(s, b)) || e != api.OK {
				t.Errorf("Flaws of %v in %v: %q, %d, not %q", b, s, names, e, slowFlaws(s, b))
			}
			for side := range 4 {
				want := s.Open[side] && !box.Inside(beside(b, side), s.Pit)
				if open, e := survey.Open(s, b, side); open != want || e != api.OK {
					t.Errorf("Open of the side %d of %v in %v: %v, %d", side, b, s, open, e)
				}
				if z, e := survey.Jointed(s, b, side); !slices.Equal(z, slowJointed(s, b, side)) || e != api.OK {
					t.Errorf("Jointed of the side %d of %v in %v: %v, %d, not %v", side, b, s, z, e, slowJointed(s, b, side))
				}
			}
		}
	}
}

// TestParts divides boxes at what passes through them: that passes through neither part, and nothing concerns a part alone.
func TestParts(t *testing.T) {
	random := rand.New(rand.NewSource(9))
	for range 150 {
		s := someSurvey(random, 6)
		cuts := map[string]func(low, high *api.Box){}
		for _, b := range s.Beds {
			cuts[b.Name] = func(low, high *api.Box) { low.Max.Z, high.Min.Z = b.Z, b.Z }
		}
		for _, j := range s.Joints {
			cuts[j.Name] = func(low, high *api.Box) {
				if j.Axis == api.AxisX {
					low.Max.X, high.Min.X = j.At, j.At
				} else {
					low.Max.Y, high.Min.Y = j.At, j.At
				}
			}
		}
		boxes := boxesOf(s.Pit)
		for range 40 {
			b := boxes[random.Intn(len(boxes))]
			through, _ := survey.Through(s, b)
			flaws, _ := survey.Flaws(s, b)
			for _, name := range through {
				low, high := b, b
				cuts[name](&low, &high)
				for _, part := range []api.Box{low, high} {
					some, e := survey.Through(s, part)
					if e != api.OK || slices.Contains(some, name) || !subset(some, through) {
						t.Errorf("Through of %v: %q, but of its part %v: %q, %d", b, through, part, some, e)
					}
					if some, e := survey.Flaws(s, part); e != api.OK || !subset(some, flaws) {
						t.Errorf("Flaws of %v: %q, but of its part %v: %q, %d", b, flaws, part, some, e)
					}
				}
			}
		}
	}
}

func subset(some, all []string) bool {
	return !slices.ContainsFunc(some, func(name string) bool { return !slices.Contains(all, name) })
}

// TestEnds has sides at the ends of the pit and of boxes, in the greatest pit and in a small one.
func TestEnds(t *testing.T) {
	for _, s := range []api.Survey{full(), tight()} {
		for side := range 4 {
			if open, e := survey.Open(s, s.Pit, side); open != s.Open[side] || e != api.OK {
				t.Errorf("Open of the side %d of the pit %v: %v, %d", side, s.Pit, open, e)
			}
			b := s.Pit
			b.Min.X, b.Min.Y, b.Max.X, b.Max.Y = b.Min.X+1, b.Min.Y+1, b.Max.X-1, b.Max.Y-1
			if open, e := survey.Open(s, b, side); open || e != api.OK {
				t.Errorf("Open of the side %d of %v: %v, %d", side, b, open, e)
			}
		}
	}
	s := tight()
	if names, e := survey.Through(s, s.Pit); len(names) > 0 || e != api.OK {
		t.Errorf("Through of a pit with beds and joints at its ends: %q, %d", names, e)
	}
	for side, want := range [][]api.Interval{{{Lo: -2, Hi: 2}}, {{Lo: -2, Hi: 2}}, {{Lo: 2, Hi: 2}}, {{Lo: -2, Hi: -2}}} {
		if z, e := survey.Jointed(s, s.Pit, side); !slices.Equal(z, want) || e != api.OK {
			t.Errorf("Jointed of the side %d of the pit: %v, %d, not %v", side, z, e, want)
		}
	}
	s = full()
	names, e := survey.Through(s, s.Pit)
	if len(names) != api.MaxBeds+api.MaxJoints || !slices.IsSorted(names) || e != api.OK {
		t.Errorf("Through of all: %q, %d", names, e)
	}
	if flaws, e := survey.Flaws(s, s.Pit); len(flaws) != api.MaxFlaws || e != api.OK {
		t.Errorf("Flaws of all: %q, %d", flaws, e)
	}
	if z, e := survey.Jointed(s, bx(0, 0, -top, 1, 1, top), api.MinusX); !slices.Equal(z, []api.Interval{{Lo: -top, Hi: top - 1}}) || e != api.OK {
		t.Errorf("Jointed from end to end: %v, %d", z, e)
	}
}

// TestArguments looks whether surveys that are asked stay as they are.
func TestArguments(t *testing.T) {
	for _, make := range []func() api.Survey{rich, tight, full} {
		s := make()
		for name, call := range calls() {
			for side := range 4 {
				call(s, s.Pit, side)
			}
			if !reflect.DeepEqual(s, make()) {
				t.Errorf("%s changes the survey to %v", name, s)
			}
		}
	}
}
