package sound_test

import (
	"fmt"
	"math"
	"reflect"
	"slices"
	"testing"

	"gangsaw/api"
	"gangsaw/box"
	"gangsaw/model"
	"gangsaw/sound"
	"gangsaw/survey"
)

const top = api.MaxCoord

var whole = bx(-top, -top, -top, top, top, top)

func pt(x, y, z int) api.Vec {
	return api.Vec{X: x, Y: y, Z: z}
}

// bx returns the box from the first three numbers to the last three.
func bx(x, y, z, toX, toY, toZ int) api.Box {
	return api.Box{Min: pt(x, y, z), Max: pt(toX, toY, toZ)}
}

// poly returns the polygon with the corners x0, y0, x1, y1 ..
func poly(numbers ...int) api.Polygon {
	var p api.Polygon
	for i := 0; i < len(numbers); i += 2 {
		p = append(p, api.Point{X: numbers[i], Y: numbers[i+1]})
	}
	return p
}

func flaw(name string, lo, hi int, base api.Polygon) api.Flaw {
	return api.Flaw{Name: name, Prism: api.Prism{Base: base, Lo: lo, Hi: hi}}
}

func says(state int, b api.Box) api.Evidence {
	return api.Evidence{Source: "a", Box: b, State: state}
}

// example has the survey and the evidence of the chapter's examples.
func example() (api.Survey, []api.Evidence) {
	s := api.Survey{Pit: bx(0, 0, 0, 10, 10, 10), Beds: []api.Bed{{Name: "b", Z: 4}}, Flaws: []api.Flaw{flaw("f", 0, 10, poly(8, 0, 10, 0, 10, 2))}}
	return s, []api.Evidence{says(api.Sound, bx(0, 0, 0, 10, 10, 8))}
}

// rich has several of all that a survey can have, and all that evidence can say.
func rich() (api.Survey, []api.Evidence) {
	s := api.Survey{
		Pit:    bx(-10, 0, -20, 110, 90, 80),
		Beds:   []api.Bed{{Name: "upper", Z: 10}, {Name: "lower", Z: 30}, {Name: "a", Z: 40}},
		Joints: []api.Joint{{Name: "j1", Axis: api.AxisX, At: 30, Hi: 60}, {Name: "j2", Axis: api.AxisY, At: 30, Lo: -20, Hi: 80}, {Name: "k", Axis: api.AxisY, At: 40, Lo: 5, Hi: 6}},
		Flaws:  []api.Flaw{flaw("f1", 0, 5, poly(0, 0, 10, 0, 0, 10)), flaw("f2", -20, 80, poly(20, 20, 25, 20, 25, 25, 20, 25)), flaw("g", 7, 8, poly(0, 0, 3, 1, 6, 9))},
	}
	return s, []api.Evidence{says(api.Sound, bx(-10, 0, -20, 110, 90, 70)), says(api.Flawed, bx(100, 80, 60, 110, 90, 80)), says(api.Sound, bx(50, 0, 75, 60, 10, 90))}
}

// result is what a call returns: its error, and the rest of it.
type result struct {
	e    api.Errno
	rest any
}

// calls has the functions with an error.
func calls(axis int) map[string]func(api.Survey, []api.Evidence, api.Box) result {
	return map[string]func(api.Survey, []api.Evidence, api.Box) result{
		"Find": func(s api.Survey, list []api.Evidence, b api.Box) result {
			w, e := sound.Find(s, list, b)
			return result{e, w}
		},
		"Is": func(s api.Survey, list []api.Evidence, b api.Box) result {
			is, e := sound.Is(s, list, b)
			return result{e, is}
		},
		"Range": func(s api.Survey, list []api.Evidence, b api.Box) result {
			r, e := sound.Range(s, list, b, axis)
			return result{e, r}
		},
		"Unseen": func(s api.Survey, list []api.Evidence, b api.Box) result {
			n, e := sound.Unseen(s, list, b)
			return result{e, n}
		},
		"Pieces": func(s api.Survey, list []api.Evidence, b api.Box) result {
			parts, e := sound.Pieces(s, list, b)
			return result{e, [1]int{len(parts)}}
		},
	}
}

// wantErrors calls everything, also with an axis that is none, and offers witnesses of all kinds.
func wantErrors(t *testing.T, what string, s api.Survey, list []api.Evidence, b api.Box, want api.Errno) {
	t.Helper()
	for _, axis := range []int{api.AxisX, api.AxisZ, 3, -1} {
		for name, call := range calls(axis) {
			if r := call(s, list, b); r.e != want || !reflect.ValueOf(r.rest).IsZero() {
				t.Errorf("%s of %s: %v, not %d", name, what, r, want)
			}
		}
	}
	for kind := range 7 {
		for _, name := range []string{"", "f1", "upper", "j1"} {
			for state := range 4 {
				if sound.Verify(s, list, b, sound.Witness{Kind: kind, Name: name, Cell: b.Min, State: state}) || sound.Verify(s, list, b, sound.Witness{Kind: kind, Name: name}) {
					t.Errorf("Verify of %s accepts the kind %d with %q and %d", what, kind, name, state)
				}
			}
		}
	}
}

func TestSignatures(t *testing.T) {
	var (
		_ func(api.Survey, []api.Evidence, api.Box) (sound.Witness, api.Errno)                = sound.Find
		_ func(api.Survey, []api.Evidence, api.Box) (bool, api.Errno)                         = sound.Is
		_ func(api.Survey, []api.Evidence, api.Box, sound.Witness) bool                       = sound.Verify
		_ func(s api.Survey, l []api.Evidence, b api.Box, axis int) (api.Interval, api.Errno) = sound.Range
		_ func(api.Survey, []api.Evidence, api.Box) (int64, api.Errno)                        = sound.Unseen
		_ func(api.Survey, []api.Evidence, api.Box) ([]api.Box, api.Errno)                    = sound.Pieces
	)
	if [...]int{sound.None, sound.Cell, sound.Flaw, sound.Bed, sound.Joint, sound.Beyond} != [...]int{0, 1, 2, 3, 4, 5} {
		t.Error("the kinds are not 0 to 5")
	}
	if (sound.Witness{}) != (sound.Witness{Kind: sound.None, Name: "", Cell: api.Vec{}, State: api.Unseen}) {
		t.Error("the zero witness is not of the kind None")
	}
}

func TestExamples(t *testing.T) {
	s, list := example()
	for _, c := range []struct {
		b    api.Box
		want sound.Witness
	}{
		{bx(0, 0, 0, 5, 5, 4), sound.Witness{}},
		{bx(0, 0, 0, 5, 5, 5), sound.Witness{Kind: sound.Bed, Name: "b"}},
		{bx(0, 0, 4, 5, 5, 9), sound.Witness{Kind: sound.Cell, Cell: pt(0, 0, 8)}},
		{bx(5, 0, 0, 10, 5, 4), sound.Witness{Kind: sound.Flaw, Name: "f"}},
		{bx(5, 0, 0, 10, 5, 9), sound.Witness{Kind: sound.Cell, Cell: pt(5, 0, 8)}},
		{bx(5, 0, 0, 10, 5, 8), sound.Witness{Kind: sound.Flaw, Name: "f"}},
		{bx(0, 0, 4, 5, 5, 8), sound.Witness{}},
		{bx(0, 0, 0, 5, 5, 11), sound.Witness{Kind: sound.Beyond}},
	} {
		if w, e := sound.Find(s, list, c.b); w != c.want || e != api.OK {
			t.Errorf("Find of %v: %v, %d, not %v", c.b, w, e, c.want)
		}
		if is, e := sound.Is(s, list, c.b); is != (c.want.Kind == sound.None) || e != api.OK {
			t.Errorf("Is of %v: %v, %d", c.b, is, e)
		}
		if !sound.Verify(s, list, c.b, c.want) {
			t.Errorf("Verify of %v refuses %v", c.b, c.want)
		}
	}
	if r, e := sound.Range(s, list, bx(5, 0, 0, 10, 5, 4), api.AxisX); r != (api.Interval{Lo: 5, Hi: 7}) || e != api.OK {
		t.Errorf("Range: %v, %d", r, e)
	}
	if parts, e := sound.Pieces(s, list, bx(0, 0, 0, 5, 5, 8)); !slices.Equal(parts, []api.Box{bx(0, 0, 0, 5, 5, 4), bx(0, 0, 4, 5, 5, 8)}) || e != api.OK {
		t.Errorf("Pieces: %v, %d", parts, e)
	}
	if n, e := sound.Unseen(s, list, bx(0, 0, 4, 5, 5, 9)); n != 25 || e != api.OK {
		t.Errorf("Unseen: %d, %d", n, e)
	}
}

// defects of surveys and of evidence, each with its error, in the order in which they count.
func surveyDefects() []func(*api.Survey) {
	return []func(*api.Survey){
		func(s *api.Survey) { s.Beds = make([]api.Bed, api.MaxBeds+1) }, func(s *api.Survey) { s.Joints = make([]api.Joint, api.MaxJoints+1) }, func(s *api.Survey) { s.Flaws = make([]api.Flaw, api.MaxFlaws+1) },
		func(s *api.Survey) { s.Pit.Max.X = top + 1 }, func(s *api.Survey) { s.Pit.Min.Z = s.Pit.Max.Z }, func(s *api.Survey) { *s = api.Survey{} }, func(s *api.Survey) { s.Beds[1].Name = "B" }, func(s *api.Survey) { s.Joints[0].Axis = api.AxisZ },
		func(s *api.Survey) { s.Flaws[2].Prism.Hi = 7 }, func(s *api.Survey) { s.Flaws[1].Prism.Base = nil }, func(s *api.Survey) { s.Flaws[0].Prism.Base = poly(0, 0, 0, 10, 10, 0) }, func(s *api.Survey) { s.Beds[2].Z = 81 },
		func(s *api.Survey) { s.Joints[2].Name = "upper" }, func(s *api.Survey) { s.Flaws[0], s.Flaws[1] = s.Flaws[1], s.Flaws[0] },
	}
}

func evidenceDefects() []func([]api.Evidence) []api.Evidence {
	change := func(how func(v *api.Evidence)) func([]api.Evidence) []api.Evidence {
		return func(list []api.Evidence) []api.Evidence {
			how(&list[len(list)-1])
			return list
		}
	}
	return []func([]api.Evidence) []api.Evidence{
		func(list []api.Evidence) []api.Evidence {
			return append(list, make([]api.Evidence, api.MaxEvidence+1-len(list))...)
		},
		change(func(v *api.Evidence) { v.Source = " a" }), change(func(v *api.Evidence) { v.Source = "" }), change(func(v *api.Evidence) { v.Box.Max.Y = top + 1 }), change(func(v *api.Evidence) { v.Box.Max.Y = v.Box.Min.Y }),
		change(func(v *api.Evidence) { v.State = api.Unseen }), change(func(v *api.Evidence) { v.State = api.Clash }), change(func(v *api.Evidence) { v.State = -1 }), change(func(v *api.Evidence) { v.State = 4 }),
	}
}

// TestErrors has each defect, and each pair of defects of the survey, the evidence and the box: the survey counts first, then the evidence.
func TestErrors(t *testing.T) {
	inside := bx(0, 0, 0, 9, 9, 9)
	badBoxes := []api.Box{{}, bx(0, 0, 0, 0, 1, 1), bx(0, 0, 5, 1, 1, 4), bx(0, 0, 0, 1, 1, top+1), bx(-top-1, 0, 0, 1, 1, 1), bx(math.MinInt, 0, 0, math.MaxInt, 1, 1), bx(math.MaxInt, 0, 0, math.MinInt, 1, 1), bx(0, top+2, 0, 1, top+1, 1)}
	for i, spoil := range surveyDefects() {
		s, list := rich()
		spoil(&s)
		want := survey.Check(s)
		if want == api.OK {
			t.Errorf("defect %d of surveys is none", i)
		}
		for _, b := range append(badBoxes, inside, whole) {
			wantErrors(t, fmt.Sprintf("defect %d of surveys", i), s, list, b, want)
			for k, spoil := range evidenceDefects() {
				wantErrors(t, fmt.Sprintf("defect %d of surveys and %d of evidence", i, k), s, spoil(slices.Clone(list)), b, want)
			}
		}
	}
	s, list := rich()
	for i, spoil := range evidenceDefects() {
		bad := spoil(slices.Clone(list))
		want := model.Check(bad)
		if want == api.OK {
			t.Errorf("defect %d of evidence is none", i)
		}
		for _, b := range append(badBoxes, inside, whole) {
			wantErrors(t, fmt.Sprintf("defect %d of evidence", i), s, bad, b, want)
		}
	}
	for _, b := range badBoxes {
		wantErrors(t, fmt.Sprintf("the box %v", b), s, list, b, box.Check(b))
		wantErrors(t, fmt.Sprintf("the box %v without evidence", b), s, nil, b, box.Check(b))
	}
}

func TestErrorsOfPlaces(t *testing.T) {
	s, list := rich()
	outside := []api.Box{bx(-11, 0, 0, 1, 1, 1), bx(0, -1, 0, 1, 1, 1), bx(0, 0, -21, 1, 1, 1), bx(0, 0, 0, 111, 1, 1), bx(0, 0, 0, 1, 91, 1), bx(0, 0, 0, 1, 1, 81), bx(110, 0, 0, 111, 1, 1), whole}
	for _, b := range outside {
		for _, axis := range []int{-1, 3, 4, math.MaxInt, math.MinInt} {
			if r, e := sound.Range(s, list, b, axis); r != (api.Interval{}) || e != api.ErrInvalid {
				t.Errorf("Range along %d of %v: %v, %d", axis, b, r, e)
			}
		}
		for axis := api.AxisX; axis <= api.AxisZ; axis++ {
			if r, e := sound.Range(s, list, b, axis); r != (api.Interval{}) || e != api.ErrOutside {
				t.Errorf("Range along %d of %v: %v, %d", axis, b, r, e)
			}
		}
		if parts, e := sound.Pieces(s, list, b); len(parts) > 0 || e != api.ErrOutside {
			t.Errorf("Pieces of %v: %v, %d", b, parts, e)
		}
		if w, e := sound.Find(s, list, b); w != (sound.Witness{Kind: sound.Beyond}) || e != api.OK {
			t.Errorf("Find of %v: %v, %d", b, w, e)
		}
		if is, e := sound.Is(s, list, b); is || e != api.OK {
			t.Errorf("Is of %v: %v, %d", b, is, e)
		}
	}
	for _, b := range []api.Box{s.Pit, bx(0, 40, 40, 9, 49, 49)} {
		for _, axis := range []int{-1, 3, 4, math.MaxInt, math.MinInt} {
			if r, e := sound.Range(s, list, b, axis); r != (api.Interval{}) || e != api.ErrInvalid {
				t.Errorf("Range along %d of %v: %v, %d", axis, b, r, e)
			}
		}
	}
	// What is unseen is counted outside the pit, too.
	if n, e := sound.Unseen(s, nil, whole); n != 8*top*top*top || e != api.OK {
		t.Errorf("Unseen of everything: %d, %d", n, e)
	}
	if n, e := sound.Unseen(s, list, bx(105, 85, 75, 115, 95, 85)); n != 1000-5*5*5 || e != api.OK {
		t.Errorf("Unseen at the corner of the pit: %d, %d", n, e)
	}
}

// TestFind has boxes that have several witnesses: they count in order.
func TestFind(t *testing.T) {
	s, list := rich()
	for _, c := range []struct {
		b    api.Box
		want sound.Witness
	}{
		{s.Pit, sound.Witness{Kind: sound.Cell, Cell: pt(100, 80, 60), State: api.Clash}},
		{bx(-10, 0, 65, 110, 90, 80), sound.Witness{Kind: sound.Cell, Cell: pt(100, 80, 65), State: api.Clash}},
		{bx(-10, 0, 65, 100, 90, 80), sound.Witness{Kind: sound.Cell, Cell: pt(-10, 0, 70)}},
		{bx(50, 0, 65, 60, 10, 80), sound.Witness{Kind: sound.Cell, Cell: pt(50, 0, 70)}},
		{bx(50, 0, 75, 61, 10, 80), sound.Witness{Kind: sound.Cell, Cell: pt(60, 0, 75)}},
		{bx(50, 0, 75, 60, 11, 80), sound.Witness{Kind: sound.Cell, Cell: pt(50, 10, 75)}},
		{bx(50, 0, 75, 60, 10, 80), sound.Witness{}},
		{bx(100, 80, 72, 105, 85, 75), sound.Witness{Kind: sound.Cell, Cell: pt(100, 80, 72), State: api.Flawed}},
		{bx(99, 80, 72, 105, 85, 75), sound.Witness{Kind: sound.Cell, Cell: pt(99, 80, 72)}},
		{bx(100, 79, 69, 105, 85, 75), sound.Witness{Kind: sound.Cell, Cell: pt(100, 80, 69), State: api.Clash}},
		{bx(100, 79, 70, 105, 85, 75), sound.Witness{Kind: sound.Cell, Cell: pt(100, 79, 70)}},
		{bx(-10, 0, -20, 100, 80, 60), sound.Witness{Kind: sound.Flaw, Name: "f1"}},
		{bx(-10, 0, 5, 100, 80, 60), sound.Witness{Kind: sound.Flaw, Name: "f2"}},
		{bx(-10, 0, 5, 20, 80, 60), sound.Witness{Kind: sound.Flaw, Name: "g"}},
		{bx(40, 0, 5, 100, 80, 60), sound.Witness{Kind: sound.Bed, Name: "a"}},
		{bx(40, 0, 5, 100, 80, 40), sound.Witness{Kind: sound.Bed, Name: "lower"}},
		{bx(40, 0, 5, 100, 80, 30), sound.Witness{Kind: sound.Bed, Name: "upper"}},
		{bx(40, 0, 10, 100, 80, 30), sound.Witness{Kind: sound.Joint, Name: "j2"}},
		{bx(26, 0, 10, 100, 80, 30), sound.Witness{Kind: sound.Joint, Name: "j1"}},
		{bx(30, 30, 5, 100, 80, 10), sound.Witness{Kind: sound.Joint, Name: "k"}},
		{bx(30, 30, 6, 100, 80, 10), sound.Witness{}},
		{bx(30, 30, 4, 100, 80, 5), sound.Witness{}},
		{bx(30, 40, 4, 100, 80, 10), sound.Witness{}},
		{bx(26, 30, 60, 100, 80, 70), sound.Witness{}},
		{bx(26, 30, 59, 100, 80, 70), sound.Witness{Kind: sound.Joint, Name: "j1"}},
		{bx(26, 30, -20, 100, 80, 0), sound.Witness{}},
		{bx(26, 30, -20, 100, 80, 1), sound.Witness{Kind: sound.Joint, Name: "j1"}},
		{bx(5, 5, 0, 9, 9, 5), sound.Witness{}},
		{bx(4, 5, 0, 9, 9, 5), sound.Witness{Kind: sound.Flaw, Name: "f1"}},
		{bx(5, 5, 0, 9, 9, 6), sound.Witness{}},
		{bx(5, 5, 0, 9, 9, 8), sound.Witness{Kind: sound.Flaw, Name: "g"}},
	} {
		if w, e := sound.Find(s, list, c.b); w != c.want || e != api.OK {
			t.Errorf("Find of %v: %v, %d, not %v", c.b, w, e, c.want)
		}
		if is, e := sound.Is(s, list, c.b); is != (c.want == sound.Witness{}) || e != api.OK {
			t.Errorf("Is of %v: %v, %d", c.b, is, e)
		}
	}
	// Without evidence the first cell is a witness everywhere.
	for _, b := range []api.Box{s.Pit, bx(109, 89, 79, 110, 90, 80)} {
		if w, e := sound.Find(s, nil, b); w != (sound.Witness{Kind: sound.Cell, Cell: b.Min}) || e != api.OK {
			t.Errorf("Find of %v without evidence: %v, %d", b, w, e)
		}
	}
}

// TestRange goes along each axis, up to each kind of obstacle.
func TestRange(t *testing.T) {
	s, list := rich()
	for _, c := range []struct {
		b    api.Box
		axis int
		want api.Interval
	}{
		{bx(30, 40, 40, 100, 80, 60), api.AxisX, api.Interval{Lo: 30, Hi: 99}}, {bx(30, 40, 40, 100, 80, 60), api.AxisY, api.Interval{Lo: 40, Hi: 79}}, {bx(30, 40, 40, 100, 80, 60), api.AxisZ, api.Interval{Lo: 40, Hi: 59}},
		{bx(0, 40, 40, 100, 80, 60), api.AxisX, api.Interval{Lo: 0, Hi: 29}}, {bx(29, 40, 40, 100, 80, 60), api.AxisX, api.Interval{Lo: 29, Hi: 29}}, {bx(0, 40, 60, 100, 80, 61), api.AxisX, api.Interval{Lo: 0, Hi: 99}},
		{bx(30, 0, 40, 100, 80, 60), api.AxisY, api.Interval{Lo: 0, Hi: 29}}, {bx(30, 30, 0, 100, 80, 10), api.AxisY, api.Interval{Lo: 30, Hi: 39}}, {bx(30, 30, 6, 100, 80, 10), api.AxisY, api.Interval{Lo: 30, Hi: 79}}, {bx(30, 30, 0, 100, 80, 10), api.AxisZ, api.Interval{Lo: 0, Hi: 4}},
		{bx(40, 40, 0, 100, 80, 60), api.AxisZ, api.Interval{Lo: 0, Hi: 9}}, {bx(40, 40, 12, 100, 80, 60), api.AxisZ, api.Interval{Lo: 12, Hi: 29}}, {bx(40, 40, 39, 100, 80, 60), api.AxisZ, api.Interval{Lo: 39, Hi: 39}}, {bx(40, 40, 40, 100, 80, 80), api.AxisZ, api.Interval{Lo: 40, Hi: 69}},
		{bx(90, 80, 60, 110, 90, 70), api.AxisX, api.Interval{Lo: 90, Hi: 99}}, {bx(100, 70, 60, 110, 90, 70), api.AxisY, api.Interval{Lo: 70, Hi: 79}}, {bx(100, 80, 50, 110, 90, 70), api.AxisZ, api.Interval{Lo: 50, Hi: 59}},
		{bx(10, 20, -20, 30, 25, 0), api.AxisX, api.Interval{Lo: 10, Hi: 19}}, {bx(20, 10, -20, 30, 25, 0), api.AxisY, api.Interval{Lo: 10, Hi: 19}}, {bx(0, 0, -20, 10, 10, 10), api.AxisZ, api.Interval{Lo: -20, Hi: -1}},
		{bx(50, 0, 75, 51, 1, 76), api.AxisX, api.Interval{Lo: 50, Hi: 50}}, {bx(50, 0, 75, 51, 1, 76), api.AxisY, api.Interval{Lo: 0, Hi: 0}}, {bx(50, 0, 75, 51, 1, 76), api.AxisZ, api.Interval{Lo: 75, Hi: 75}}, {bx(50, 0, 75, 110, 1, 76), api.AxisX, api.Interval{Lo: 50, Hi: 59}},
	} {
		if r, e := sound.Range(s, list, c.b, c.axis); r != c.want || e != api.OK {
			t.Errorf("Range along %d of %v: %v, %d, not %v", c.axis, c.b, r, e, c.want)
		}
	}
	// The first cell already is not sound: for each kind of witness.
	for _, c := range []struct {
		b    api.Box
		axes []int
	}{
		{bx(0, 50, 70, 9, 59, 79), []int{0, 1, 2}}, {bx(100, 80, 60, 109, 89, 69), []int{0, 1, 2}}, {bx(100, 80, 70, 109, 89, 79), []int{0, 1, 2}}, {bx(20, 20, -20, 21, 21, -19), []int{0, 1, 2}}, {bx(19, 20, -20, 29, 21, -19), []int{1, 2}},
		{bx(40, 50, 39, 50, 60, 41), []int{0, 1}}, {bx(29, 50, 40, 31, 60, 50), []int{1, 2}}, {bx(40, 29, 40, 50, 31, 50), []int{0, 2}}, {bx(40, 40, 61, 50, 50, 71), []int{0, 1}},
	} {
		for _, axis := range c.axes {
			if r, e := sound.Range(s, list, c.b, axis); r != (api.Interval{}) || e != api.ErrNone {
				t.Errorf("Range along %d of %v: %v, %d", axis, c.b, r, e)
			}
		}
	}
	// From one end of the coordinates to the other one.
	far := api.Survey{Pit: whole, Flaws: []api.Flaw{flaw("f", top-1, top, poly(top-1, top-1, top, top-1, top, top))}}
	all := []api.Evidence{says(api.Sound, whole)}
	for axis := range 3 {
		if r, e := sound.Range(far, all, whole, axis); r != (api.Interval{Lo: -top, Hi: top - 2}) || e != api.OK {
			t.Errorf("Range along %d of everything: %v, %d", axis, r, e)
		}
		far := api.Survey{Pit: whole}
		if r, e := sound.Range(far, all, whole, axis); r != (api.Interval{Lo: -top, Hi: top - 1}) || e != api.OK {
			t.Errorf("Range along %d of everything without a flaw: %v, %d", axis, r, e)
		}
	}
}
