package model_test

import (
	"math/rand"
	"slices"
	"testing"

	"gangsaw/api"
	"gangsaw/box"
	"gangsaw/model"
)

// slowState is the state of a cell by the chapter's words.
func slowState(list []api.Evidence, cell api.Vec) int {
	saysSound, saysFlawed := false, false
	for _, v := range list {
		if box.Has(v.Box, cell) {
			saysSound = saysSound || v.State == sound
			saysFlawed = saysFlawed || v.State == flawed
		}
	}
	switch {
	case saysSound && saysFlawed:
		return clash
	case saysSound:
		return sound
	case saysFlawed:
		return flawed
	}
	return unseen
}

// cells returns the cells of a box, in order.
func cells(b api.Box) []api.Vec {
	var list []api.Vec
	for z := b.Min.Z; z < b.Max.Z; z++ {
		for y := b.Min.Y; y < b.Max.Y; y++ {
			for x := b.Min.X; x < b.Max.X; x++ {
				list = append(list, pt(x, y, z))
			}
		}
	}
	return list
}

// boxes returns all boxes within the ends of a cube.
func boxes(low, high int) []api.Box {
	var list []api.Box
	for _, from := range cells(bx(low, low, low, high, high, high)) {
		for _, to := range cells(bx(from.X+1, from.Y+1, from.Z+1, high+1, high+1, high+1)) {
			list = append(list, api.Box{Min: from, Max: to})
		}
	}
	return list
}

func slowSources(list []api.Evidence, cell api.Vec) []string {
	var names []string
	for _, v := range list {
		if box.Has(v.Box, cell) && !slices.Contains(names, v.Source) {
			names = append(names, v.Source)
		}
	}
	slices.Sort(names)
	return names
}

// compareBox holds Volume, First and All of a box against its cells.
func compareBox(t *testing.T, list []api.Evidence, b api.Box) {
	t.Helper()
	var volumes [clash + 1]int64
	var first [clash + 1]api.Vec
	for _, cell := range cells(b) {
		s := slowState(list, cell)
		if volumes[s] == 0 {
			first[s] = cell
		}
		volumes[s]++
	}
	total := int64(0)
	for s, want := range volumes {
		n, e := model.Volume(list, b, s)
		if n != want || e != api.OK {
			t.Errorf("Volume of %d in %v of %v: %d, %d, not %d", s, b, list, n, e, want)
		}
		total += n
		wantError := api.OK
		if want == 0 {
			wantError = api.ErrNone
		}
		if v, e := model.First(list, b, s); v != first[s] || e != wantError {
			t.Errorf("First of %d in %v of %v: %v, %d, not %v", s, b, list, v, e, first[s])
		}
		if all, e := model.All(list, b, s); all != (want == int64(len(cells(b)))) || e != api.OK {
			t.Errorf("All of %d in %v of %v: %v, %d", s, b, list, all, e)
		}
	}
	if volume, _ := box.Volume(b); total != volume {
		t.Errorf("the volumes in %v of %v are %d, not %d", b, list, total, volume)
	}
}

// compareCells holds State, Sources, Clashes and Useless against the cells of a box that has all the evidence.
func compareCells(t *testing.T, list []api.Evidence, around api.Box) {
	t.Helper()
	all := cells(around)
	clashes := false
	for _, cell := range all {
		want := slowState(list, cell)
		clashes = clashes || want == clash
		if s, e := model.State(list, cell); s != want || e != api.OK {
			t.Errorf("State of %v of %v: %d, %d, not %d", cell, list, s, e, want)
		}
		if names, e := model.Sources(list, cell); !slices.Equal(names, slowSources(list, cell)) || e != api.OK {
			t.Errorf("Sources of %v of %v: %q, %d", cell, list, names, e)
		}
	}
	var want [][2]int
	for i, v := range list {
		for k, w := range list {
			if i < k && v.State != w.State && slices.ContainsFunc(all, func(c api.Vec) bool { return box.Has(v.Box, c) && box.Has(w.Box, c) }) {
				want = append(want, [2]int{i, k})
			}
		}
	}
	if pairs, e := model.Clashes(list); !slices.Equal(pairs, want) || e != api.OK || clashes != (len(pairs) > 0) {
		t.Errorf("Clashes of %v: %v, %d, not %v", list, pairs, e, want)
	}
	for i := range list {
		rest := slices.Delete(slices.Clone(list), i, i+1)
		changes := slices.ContainsFunc(all, func(c api.Vec) bool { return slowState(list, c) != slowState(rest, c) })
		if is, e := model.Useless(list, i); is == changes || e != api.OK {
			t.Errorf("Useless of %d of %v: %v, %d", i, list, is, e)
		}
	}
}

// TestAllPairs has all pairs of boxes of a cube with an edge of 2, each of them sound or flawed, and all boxes.
func TestAllPairs(t *testing.T) {
	small := boxes(0, 2)
	for _, a := range small {
		for _, b := range small {
			for state := sound; state <= flawed; state++ {
				list := []api.Evidence{ev("a", sound, a), ev("b", state, b)}
				compareCells(t, list, bx(-1, -1, -1, 3, 3, 3))
				for _, c := range small {
					compareBox(t, list, c)
				}
			}
		}
	}
}

func randomBox(r *rand.Rand, around api.Box) api.Box {
	pick := func(low, high int) (int, int) {
		from := low + r.Intn(high-low)
		return from, from + 1 + r.Intn(high-from)
	}
	var b api.Box
	b.Min.X, b.Max.X = pick(around.Min.X, around.Max.X)
	b.Min.Y, b.Max.Y = pick(around.Min.Y, around.Max.Y)
	b.Min.Z, b.Max.Z = pick(around.Min.Z, around.Max.Z)
	return b
}

func randomList(r *rand.Rand, n int, around api.Box) []api.Evidence {
	var list []api.Evidence
	for range n {
		list = append(list, ev(string(rune('a'+r.Intn(4))), sound+r.Intn(2), randomBox(r, around)))
	}
	return list
}

// TestRandom holds random evidence against its cells, and against itself in other orders, with repetitions, and with more.
func TestRandom(t *testing.T) {
	r := rand.New(rand.NewSource(15))
	for i := range 400 {
		around := []api.Box{bx(-3, -3, -3, 3, 3, 3), bx(-9, 0, 0, 9, 3, 2), bx(top-4, -top, 7, top, 4-top, 12)}[i%3]
		list := randomList(r, r.Intn(12), around)
		compareCells(t, list, around)
		mixed := append(slices.Clone(list), list...)
		r.Shuffle(len(mixed), func(i, k int) { mixed[i], mixed[k] = mixed[k], mixed[i] })
		for range 8 {
			b := randomBox(r, around)
			compareBox(t, list, b)
			compareBox(t, mixed, b)
			for s := unseen; s <= clash; s++ {
				n, _ := model.Volume(list, b, s)
				if m, e := model.Volume(mixed, b, s); m != n || e != api.OK {
					t.Errorf("Volume of %d of %v mixed: %d, %d, not %d", s, list, m, e, n)
				}
			}
		}
		for k := range mixed {
			if is, e := model.Useless(mixed, k); !is || e != api.OK {
				t.Errorf("Useless of evidence that is given twice: %v, %d", is, e)
			}
		}
		more := append(slices.Clone(list), randomList(r, 1, around)...)
		for _, cell := range cells(around) {
			before, _ := model.State(list, cell)
			behind, e := model.State(more, cell)
			if j, _ := model.Join(before, behind); j != behind || e != api.OK {
				t.Errorf("State of %v: %d, with more evidence %d", cell, before, behind)
			}
		}
	}
}

// TestWithoutAtRandom holds the states without a source against those of what others say.
func TestWithoutAtRandom(t *testing.T) {
	r := rand.New(rand.NewSource(151))
	around := bx(0, 0, 0, 4, 4, 4)
	for range 200 {
		list := randomList(r, r.Intn(20), around)
		for _, source := range []string{"a", "d", "e"} {
			var want []api.Evidence
			for _, v := range list {
				if v.Source != source {
					want = append(want, v)
				}
			}
			if rest, e := model.Without(list, source); !slices.Equal(rest, want) || e != api.OK {
				t.Errorf("Without %s of %v: %v, %d", source, list, rest, e)
			}
		}
	}
}
