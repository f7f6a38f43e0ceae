package sound_test

import (
	"cmp"
	"fmt"
	"math/rand"
	"slices"
	"testing"

	"gangsaw/api"
	"gangsaw/box"
	"gangsaw/polygon"
	"gangsaw/prism"
	"gangsaw/sound"
	"gangsaw/survey"
)

func slowState(list []api.Evidence, cell api.Vec) int {
	saysSound, saysFlawed := false, false
	for _, v := range list {
		if box.Has(v.Box, cell) {
			saysSound = saysSound || v.State == api.Sound
			saysFlawed = saysFlawed || v.State == api.Flawed
		}
	}
	switch {
	case saysSound && saysFlawed:
		return api.Clash
	case saysSound:
		return api.Sound
	case saysFlawed:
		return api.Flawed
	}
	return api.Unseen
}

// cells returns the cells of a box, in order.
func cells(b api.Box) []api.Vec {
	var list []api.Vec
	for z := b.Min.Z; z < b.Max.Z; z++ {
		for y := b.Min.Y; y < b.Max.Y; y++ {
			for x := b.Min.X; x < b.Max.X; x++ {
				list = append(list, pt(x, y, z))
			}
		}
	}
	return list
}

// boxes returns all boxes within a box.
func boxes(around api.Box) []api.Box {
	var list []api.Box
	for _, from := range cells(around) {
		for _, to := range cells(api.Box{Min: from, Max: around.Max}) {
			list = append(list, api.Box{Min: from, Max: pt(to.X+1, to.Y+1, to.Z+1)})
		}
	}
	return list
}

func passes(j api.Joint, b api.Box) bool {
	if j.Lo >= b.Max.Z || j.Hi <= b.Min.Z {
		return false
	}
	if j.Axis == api.AxisX {
		return b.Min.X < j.At && j.At < b.Max.X
	}
	return b.Min.Y < j.At && j.At < b.Max.Y
}

// slowWitnesses returns all witnesses of a box, in order.
func slowWitnesses(s api.Survey, list []api.Evidence, b api.Box) []sound.Witness {
	p := s.Pit
	if b.Min.X < p.Min.X || b.Min.Y < p.Min.Y || b.Min.Z < p.Min.Z || b.Max.X > p.Max.X || b.Max.Y > p.Max.Y || b.Max.Z > p.Max.Z {
		return []sound.Witness{{Kind: sound.Beyond}}
	}
	var found []sound.Witness
	for _, cell := range cells(b) {
		if state := slowState(list, cell); state != api.Sound {
			found = append(found, sound.Witness{Kind: sound.Cell, Cell: cell, State: state})
		}
	}
	count := len(found)
	for _, f := range s.Flaws {
		if overlaps, _ := prism.Overlaps(f.Prism, b); overlaps {
			found = append(found, sound.Witness{Kind: sound.Flaw, Name: f.Name})
		}
	}
	for _, bed := range s.Beds {
		if b.Min.Z < bed.Z && bed.Z < b.Max.Z {
			found = append(found, sound.Witness{Kind: sound.Bed, Name: bed.Name})
		}
	}
	for _, j := range s.Joints {
		if passes(j, b) {
			found = append(found, sound.Witness{Kind: sound.Joint, Name: j.Name})
		}
	}
	slices.SortFunc(found[count:], func(v, w sound.Witness) int {
		return cmp.Or(cmp.Compare(v.Kind, w.Kind), cmp.Compare(v.Name, w.Name))
	})
	return found
}

func slowIs(s api.Survey, list []api.Evidence, b api.Box) bool {
	return len(slowWitnesses(s, list, b)) == 0
}

// slowRange tries all lengths, from the greatest one on.
func slowRange(s api.Survey, list []api.Evidence, b api.Box, axis int) (api.Interval, api.Errno) {
	at := func(v *api.Vec) *int { return []*int{&v.X, &v.Y, &v.Z}[axis] }
	low := *at(&b.Min)
	for *at(&b.Max) > low {
		if slowIs(s, list, b) {
			return api.Interval{Lo: low, Hi: *at(&b.Max) - 1}, api.OK
		}
		*at(&b.Max)--
	}
	return api.Interval{}, api.ErrNone
}

// slowParts returns the parts of a box: the greatest boxes of which no two cells lie on different sides of what passes through the box.
func slowParts(s api.Survey, b api.Box) []api.Box {
	index := map[[3]int]int{}
	var parts []api.Box
	for _, cell := range cells(b) {
		var key [3]int
		for _, bed := range s.Beds {
			if b.Min.Z < bed.Z && bed.Z <= cell.Z {
				key[2] = bed.Z - b.Min.Z
			}
		}
		for _, j := range s.Joints {
			if at := []int{cell.X, cell.Y}[j.Axis]; passes(j, b) && j.At <= at {
				key[j.Axis] = max(key[j.Axis], j.At-[]int{b.Min.X, b.Min.Y}[j.Axis])
			}
		}
		i, known := index[key]
		if !known {
			i = len(parts)
			index[key] = i
			parts = append(parts, api.Box{Min: cell})
		}
		parts[i].Max = pt(cell.X+1, cell.Y+1, cell.Z+1)
	}
	return parts
}

func slowPieces(s api.Survey, list []api.Evidence, b api.Box) []api.Box {
	var sound []api.Box
	for _, part := range slowParts(s, b) {
		if slowIs(s, list, part) {
			sound = append(sound, part)
		}
	}
	return sound
}

// compareBox holds all functions against the slow ones.
func compareBox(t *testing.T, s api.Survey, list []api.Evidence, b api.Box) {
	t.Helper()
	witnesses := slowWitnesses(s, list, b)
	first := append(witnesses, sound.Witness{})[0]
	if w, e := sound.Find(s, list, b); w != first || e != api.OK {
		t.Errorf("Find of %v in %v with %v: %v, %d, not %v", b, s, list, w, e, first)
	}
	if is, e := sound.Is(s, list, b); is != (len(witnesses) == 0) || e != api.OK {
		t.Errorf("Is of %v in %v with %v: %v, %d", b, s, list, is, e)
	}
	unseen := int64(0)
	for _, cell := range cells(b) {
		if slowState(list, cell) == api.Unseen {
			unseen++
		}
	}
	if n, e := sound.Unseen(s, list, b); n != unseen || e != api.OK {
		t.Errorf("Unseen of %v with %v: %d, %d, not %d", b, list, n, e, unseen)
	}
	beyond := first.Kind == sound.Beyond
	for axis := range 3 {
		want, wantError := slowRange(s, list, b, axis)
		if beyond {
			want, wantError = api.Interval{}, api.ErrOutside
		}
		if r, e := sound.Range(s, list, b, axis); r != want || e != wantError {
			t.Errorf("Range along %d of %v in %v with %v: %v, %d, not %v, %d", axis, b, s, list, r, e, want, wantError)
		}
	}
	want, wantError := slowPieces(s, list, b), api.OK
	if beyond {
		want, wantError = nil, api.ErrOutside
	}
	if parts, e := sound.Pieces(s, list, b); !slices.Equal(parts, want) || e != wantError {
		t.Errorf("Pieces of %v in %v with %v: %v, %d, not %v, %d", b, s, list, parts, e, want, wantError)
	}
}

// offered are witnesses that are accepted exactly if they are witnesses: those that are, changed in each field, and all simple ones.
func offered(s api.Survey, witnesses []sound.Witness) []sound.Witness {
	names := []string{"", "none", "F"}
	for _, b := range s.Beds {
		names = append(names, b.Name)
	}
	for _, j := range s.Joints {
		names = append(names, j.Name)
	}
	for _, f := range s.Flaws {
		names = append(names, f.Name)
	}
	var list []sound.Witness
	for kind := -1; kind <= 6; kind++ {
		for _, name := range names {
			list = append(list, sound.Witness{Kind: kind, Name: name})
		}
		for state := -1; state <= 4; state++ {
			list = append(list, sound.Witness{Kind: kind, State: state}, sound.Witness{Kind: kind, State: state, Cell: pt(top, 0, 0)})
		}
	}
	for _, w := range witnesses {
		list = append(list, w)
		for kind := range 7 {
			list = append(list, sound.Witness{Kind: kind, Name: w.Name, Cell: w.Cell, State: w.State})
		}
		for _, name := range names {
			list = append(list, sound.Witness{Kind: w.Kind, Name: name, Cell: w.Cell, State: w.State})
		}
		for state := -1; state <= 4; state++ {
			list = append(list, sound.Witness{Kind: w.Kind, Name: w.Name, Cell: w.Cell, State: state})
		}
		for _, by := range []int{-1, 1, 100} {
			for _, v := range []api.Vec{pt(w.Cell.X+by, w.Cell.Y, w.Cell.Z), pt(w.Cell.X, w.Cell.Y+by, w.Cell.Z), pt(w.Cell.X, w.Cell.Y, w.Cell.Z+by)} {
				list = append(list, sound.Witness{Kind: w.Kind, Name: w.Name, Cell: v, State: w.State})
			}
		}
	}
	return list
}

func compareWitnesses(t *testing.T, s api.Survey, list []api.Evidence, b api.Box) {
	t.Helper()
	witnesses := slowWitnesses(s, list, b)
	for _, w := range offered(s, witnesses) {
		want := slices.Contains(witnesses, w) || w == sound.Witness{} && len(witnesses) == 0
		if sound.Verify(s, list, b, w) != want {
			t.Errorf("Verify of %v for %v in %v with %v: not %v", w, b, s, list, want)
		}
	}
}

// randomName returns different names, in no order.
func randomName(r *rand.Rand) string {
	return fmt.Sprintf("%c%d", 'a'+r.Intn(26), r.Intn(1000000000))
}

func randomInterval(r *rand.Rand, low, high int) (int, int) {
	from := low + r.Intn(high-low)
	return from, from + 1 + r.Intn(high-from)
}

func randomBox(r *rand.Rand, around api.Box) api.Box {
	var b api.Box
	b.Min.X, b.Max.X = randomInterval(r, around.Min.X, around.Max.X)
	b.Min.Y, b.Max.Y = randomInterval(r, around.Min.Y, around.Max.Y)
	b.Min.Z, b.Max.Z = randomInterval(r, around.Min.Z, around.Max.Z)
	return b
}

func randomSurvey(r *rand.Rand, pit api.Box) api.Survey {
	s := api.Survey{Pit: pit}
	for z := pit.Min.Z; z <= pit.Max.Z; z++ {
		if r.Intn(4) == 0 {
			s.Beds = append(s.Beds, api.Bed{Name: randomName(r), Z: z})
		}
	}
	for range r.Intn(5) {
		j := api.Joint{Name: randomName(r), Axis: r.Intn(2)}
		j.At = pit.Min.X + r.Intn(pit.Max.X-pit.Min.X+1)
		if j.Axis == api.AxisY {
			j.At = pit.Min.Y + r.Intn(pit.Max.Y-pit.Min.Y+1)
		}
		j.Lo, j.Hi = randomInterval(r, pit.Min.Z, pit.Max.Z)
		s.Joints = append(s.Joints, j)
	}
	for range r.Intn(4) {
		var corners []api.Point
		around := randomBox(r, pit)
		for range 3 + r.Intn(4) {
			corners = append(corners, api.Point{X: around.Min.X + r.Intn(around.Max.X-around.Min.X+1), Y: around.Min.Y + r.Intn(around.Max.Y-around.Min.Y+1)})
		}
		if base, e := polygon.Hull(corners); e == api.OK && len(base) >= 3 {
			s.Flaws = append(s.Flaws, flaw(randomName(r), around.Min.Z, around.Max.Z, base))
		}
	}
	slices.SortFunc(s.Joints, func(a, b api.Joint) int { return cmp.Compare(a.Name, b.Name) })
	slices.SortFunc(s.Flaws, func(a, b api.Flaw) int { return cmp.Compare(a.Name, b.Name) })
	return s
}

// randomList is mostly sound, so that boxes often are.
func randomList(r *rand.Rand, around api.Box) []api.Evidence {
	var list []api.Evidence
	for i := range r.Intn(6) {
		v := says(api.Sound, randomBox(r, around))
		if i == 0 && r.Intn(3) > 0 {
			v.Box = around
		}
		if r.Intn(4) == 0 {
			v.State = api.Flawed
		}
		list = append(list, v)
	}
	r.Shuffle(len(list), func(i, k int) { list[i], list[k] = list[k], list[i] })
	return list
}

func TestRandom(t *testing.T) {
	r := rand.New(rand.NewSource(16))
	tried, found := 0, 0
	for i := range 1500 {
		pit := []api.Box{bx(0, 0, 0, 6, 5, 6), bx(-3, 2, -9, 5, 9, -3), bx(top-5, -top, -2, top, 6-top, 5)}[i%3]
		s := randomSurvey(r, pit)
		if e := survey.Check(s); e != api.OK {
			t.Fatalf("the survey %v: %d", s, e)
		}
		list := randomList(r, pit)
		around := api.Box{Min: pt(max(pit.Min.X-1, -top), max(pit.Min.Y-1, -top), pit.Min.Z-1), Max: pt(min(pit.Max.X+1, top), min(pit.Max.Y+1, top), pit.Max.Z+1)}
		for _, b := range []api.Box{pit, randomBox(r, pit), randomBox(r, pit), randomBox(r, pit), randomBox(r, around)} {
			compareBox(t, s, list, b)
			tried++
			if slowIs(s, list, b) {
				found++
			}
		}
		compareWitnesses(t, s, list, randomBox(r, pit))
		compareWitnesses(t, s, list, randomBox(r, around))
	}
	if found < tried/20 || found > tried/2 {
		t.Errorf("%d of %d boxes are sound", found, tried)
	}
}

// TestAllBoxes has all boxes of small pits, and around them.
func TestAllBoxes(t *testing.T) {
	for _, s := range []api.Survey{
		{Pit: bx(0, 0, 0, 3, 3, 3), Beds: []api.Bed{{Name: "b2", Z: 1}, {Name: "b1", Z: 2}}, Joints: []api.Joint{{Name: "j1", Axis: api.AxisX, At: 1, Lo: 0, Hi: 2}, {Name: "j2", Axis: api.AxisY, At: 2, Lo: 1, Hi: 3}}},
		{Pit: bx(0, 0, 0, 3, 3, 3), Beds: []api.Bed{{Name: "b", Z: 0}, {Name: "c", Z: 3}}, Joints: []api.Joint{{Name: "j1", Axis: api.AxisX, At: 0, Lo: 0, Hi: 3}, {Name: "j2", Axis: api.AxisY, At: 3, Lo: 0, Hi: 3}, {Name: "k", Axis: api.AxisX, At: 2, Lo: 2, Hi: 3}}, Flaws: []api.Flaw{flaw("f", 1, 2, poly(0, 0, 2, 0, 0, 2)), flaw("g", 0, 3, poly(2, 2, 3, 2, 3, 3))}},
	} {
		for _, list := range [][]api.Evidence{nil, {says(api.Sound, s.Pit)}, {says(api.Sound, bx(0, 0, 0, 3, 3, 2)), says(api.Sound, bx(0, 1, 2, 3, 3, 3)), says(api.Flawed, bx(2, 0, 0, 4, 1, 1))}} {
			for _, b := range boxes(bx(-1, 0, 0, 3, 3, 4)) {
				compareBox(t, s, list, b)
				compareWitnesses(t, s, list, b)
			}
		}
	}
}

// TestConsequences has what follows from soundness: for the parts of sound boxes, for more evidence, and one cell beyond a range.
func TestConsequences(t *testing.T) {
	r := rand.New(rand.NewSource(165))
	for range 300 {
		pit := bx(0, 0, 0, 5, 5, 5)
		s, list := randomSurvey(r, pit), randomList(r, pit)
		for range 5 {
			b := randomBox(r, pit)
			w, _ := sound.Find(s, list, b)
			if !sound.Verify(s, list, b, w) {
				t.Errorf("Verify of %v refuses %v, which was found", b, w)
			}
			parts, _ := sound.Pieces(s, list, b)
			for i, p := range parts {
				for _, q := range parts[:i] {
					if box.Overlap(p, q) {
						t.Errorf("the parts %v and %v of %v overlap", p, q, b)
					}
				}
			}
			if w.Kind == sound.None {
				consequencesOfSound(t, s, list, b, parts, randomBox(r, b))
				continue
			}
			more := append(slices.Clone(list), says(api.Sound, pit))
			unseen, _ := sound.Unseen(s, list, b)
			flaws, _ := survey.Flaws(s, b)
			if is, _ := sound.Is(s, more, b); is && (unseen == 0 || len(flaws) > 0) {
				t.Errorf("evidence makes %v sound, with %d unseen cells and the flaws %q", b, unseen, flaws)
			}
		}
		longerIsNotSound(t, s, list, randomBox(r, pit), r.Intn(3))
	}
}

func consequencesOfSound(t *testing.T, s api.Survey, list []api.Evidence, b api.Box, parts []api.Box, inside api.Box) {
	t.Helper()
	if is, e := sound.Is(s, list, inside); !is || e != api.OK {
		t.Errorf("%v is sound, but not %v: %d", b, inside, e)
	}
	if n, e := sound.Unseen(s, list, b); n != 0 || e != api.OK {
		t.Errorf("%v is sound, with %d unseen cells: %d", b, n, e)
	}
	if !slices.Equal(parts, []api.Box{b}) {
		t.Errorf("%v is sound, with the parts %v", b, parts)
	}
}

func longerIsNotSound(t *testing.T, s api.Survey, list []api.Evidence, b api.Box, axis int) {
	t.Helper()
	r, e := sound.Range(s, list, b, axis)
	if e != api.OK {
		return
	}
	to := []*int{&b.Max.X, &b.Max.Y, &b.Max.Z}[axis]
	end := *to
	if *to = r.Hi + 1; !slowIs(s, list, b) {
		t.Errorf("%v is not sound", b)
	}
	if *to = r.Hi + 2; *to <= end && slowIs(s, list, b) {
		t.Errorf("%v is longer than the longest sound one", b)
	}
}
