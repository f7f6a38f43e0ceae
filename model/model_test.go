package model_test

import (
	"fmt"
	"math"
	"reflect"
	"slices"
	"strings"
	"testing"

	"gangsaw/api"
	"gangsaw/box"
	"gangsaw/model"
)

const (
	top    = api.MaxCoord
	unseen = api.Unseen
	sound  = api.Sound
	flawed = api.Flawed
	clash  = api.Clash
)

var whole = bx(-top, -top, -top, top, top, top)

func pt(x, y, z int) api.Vec {
	return api.Vec{X: x, Y: y, Z: z}
}

// bx returns the box from the first three numbers to the last three.
func bx(x, y, z, toX, toY, toZ int) api.Box {
	return api.Box{Min: pt(x, y, z), Max: pt(toX, toY, toZ)}
}

func ev(source string, state int, b api.Box) api.Evidence {
	return api.Evidence{Source: source, Box: b, State: state}
}

// example is the evidence of the chapter's examples.
func example() []api.Evidence {
	return []api.Evidence{ev("a", sound, bx(0, 0, 0, 10, 10, 10)), ev("b", flawed, bx(5, 5, 5, 15, 15, 15))}
}

// full has as many elements as possible, which touch, overlap, contain each other and are equal.
func full() []api.Evidence {
	var list []api.Evidence
	for i := range api.MaxEvidence {
		list = append(list, ev(fmt.Sprint("s", i%100), sound+i%2, bx(i%7, i%11, -i%5, 8+i%3, 12+i%2, 1+i%4)))
	}
	list[0].Box, list[api.MaxEvidence-1].Box = whole, bx(top-1, -top, 5, top, 1-top, 6)
	return list
}

// calls has the functions of a list; each tells its error, and whether its other results are zero values.
func calls(cell api.Vec, b api.Box, state, index int) map[string]func([]api.Evidence) (api.Errno, bool) {
	return map[string]func([]api.Evidence) (api.Errno, bool){
		"Check": func(list []api.Evidence) (api.Errno, bool) { return model.Check(list), true },
		"State": func(list []api.Evidence) (api.Errno, bool) {
			s, e := model.State(list, cell)
			return e, s == 0
		},
		"Volume": func(list []api.Evidence) (api.Errno, bool) {
			n, e := model.Volume(list, b, state)
			return e, n == 0
		},
		"First": func(list []api.Evidence) (api.Errno, bool) {
			v, e := model.First(list, b, state)
			return e, v == api.Vec{}
		},
		"All": func(list []api.Evidence) (api.Errno, bool) {
			all, e := model.All(list, b, state)
			return e, !all
		},
		"Sources": func(list []api.Evidence) (api.Errno, bool) {
			names, e := model.Sources(list, cell)
			return e, len(names) == 0
		},
		"Clashes": func(list []api.Evidence) (api.Errno, bool) {
			pairs, e := model.Clashes(list)
			return e, len(pairs) == 0
		},
		"Without": func(list []api.Evidence) (api.Errno, bool) {
			rest, e := model.Without(list, "")
			return e, len(rest) == 0
		},
		"Useless": func(list []api.Evidence) (api.Errno, bool) {
			is, e := model.Useless(list, index)
			return e, !is
		},
	}
}

// wantErrors calls everything with evidence that is not valid, also with a cell, a box, a state and an index that are none.
func wantErrors(t *testing.T, what string, list []api.Evidence, want api.Errno) {
	t.Helper()
	before := slices.Clone(list)
	for _, all := range []map[string]func([]api.Evidence) (api.Errno, bool){calls(pt(0, 0, 0), bx(0, 0, 0, 1, 1, 1), unseen, 0), calls(pt(0, 0, top), bx(0, 0, 0, 0, 0, top+1), clash+1, len(list))} {
		for name, call := range all {
			if e, zero := call(list); e != want || !zero {
				t.Errorf("%s of %s: %d (other results zero: %v), not %d", name, what, e, zero, want)
			}
		}
	}
	if !slices.Equal(list, before) {
		t.Errorf("%s are changed to %v", what, list)
	}
}

func TestSignatures(t *testing.T) {
	var (
		_ func([]api.Evidence) api.Errno                           = model.Check
		_ func(a, b int) (int, api.Errno)                          = model.Join
		_ func([]api.Evidence, api.Vec) (int, api.Errno)           = model.State
		_ func([]api.Evidence, api.Box, int) (int64, api.Errno)    = model.Volume
		_ func([]api.Evidence, api.Box, int) (api.Vec, api.Errno)  = model.First
		_ func([]api.Evidence, api.Box, int) (bool, api.Errno)     = model.All
		_ func([]api.Evidence, api.Vec) ([]string, api.Errno)      = model.Sources
		_ func([]api.Evidence) ([][2]int, api.Errno)               = model.Clashes
		_ func([]api.Evidence, string) ([]api.Evidence, api.Errno) = model.Without
		_ func(list []api.Evidence, index int) (bool, api.Errno)   = model.Useless
		_                                                          = api.Evidence{Source: "a", Box: api.Box{}, State: unseen}
	)
}

// goodLabels are at the ends of what labels may be.
func goodLabels() []string {
	var printable []byte
	for c := byte(' '); c <= '~'; c++ {
		if c != '"' {
			printable = append(printable, c)
		}
	}
	all := string(printable[1:])
	return []string{"a", "!", "~", "#", "a b", "a  b", "A1 _-'`\\", strings.Repeat("x", api.MaxLabel), all[:api.MaxLabel], all[len(all)-api.MaxLabel:], "x" + strings.Repeat(" ", api.MaxLabel-2) + "x", all[30:60]}
}

// badLabels are no labels.
func badLabels() []string {
	list := []string{"", " ", " a", "a ", "  ", `"`, `a"b`, `"a"`, "a\n", "\x7f", "a\x7fb", "\x1f", "a\x1fb", "a\x00b", "a\tb", "ä", "aäb", "\xff", "a\x80b", "\u00a0", "日", strings.Repeat("x", api.MaxLabel+1), strings.Repeat("x", 100000), strings.Repeat(" ", api.MaxLabel), strings.Repeat("x", api.MaxLabel-1) + " ", " " + strings.Repeat("x", api.MaxLabel-1)}
	for c := range 256 {
		if c < ' ' || c > '~' || c == '"' {
			list = append(list, "a"+string([]byte{byte(c)})+"z")
		}
	}
	return list
}

func TestGoodEvidence(t *testing.T) {
	lists := [][]api.Evidence{nil, {}, example(), full(), full()[:api.MaxEvidence-1]}
	for _, label := range goodLabels() {
		lists = append(lists, []api.Evidence{ev(label, flawed, bx(0, 0, 0, 1, 1, 1)), ev(label, sound, whole)})
	}
	for _, b := range []api.Box{whole, bx(-top, -top, -top, 1-top, 1-top, 1-top), bx(top-1, top-1, top-1, top, top, top), bx(-top, 0, top-1, top, 1, top), bx(0, 0, 0, 1, 1, 1)} {
		lists = append(lists, []api.Evidence{ev("a", sound, b)})
	}
	for i, list := range lists {
		before := slices.Clone(list)
		for name, call := range calls(pt(0, 0, 0), whole, sound, 0) {
			want := api.OK
			if name == "Useless" && len(list) == 0 {
				want = api.ErrRange
			}
			if name == "First" && len(list) == 0 {
				want = api.ErrNone
			}
			if e, _ := call(list); e != want {
				t.Errorf("%s of list %d: %d, not %d", name, i, e, want)
			}
		}
		if !slices.Equal(list, before) {
			t.Errorf("list %d is changed", i)
		}
	}
}

// defect makes an element of a list wrong in one way.
type defect struct {
	code  api.Errno
	spoil func(v *api.Evidence)
}

// defects are ordered like the errors.
func defects() [][]defect {
	var names, boxes, states []defect
	for _, label := range badLabels() {
		names = append(names, defect{api.ErrName, func(v *api.Evidence) { v.Source = label }})
	}
	for _, b := range []api.Box{{}, bx(0, 0, 0, 0, 9, 9), bx(0, 0, 9, 9, 9, 9), bx(0, 9, 0, 9, 8, 9), bx(top, top, top, top, top, top), bx(top, 0, 0, -top, 9, 9), bx(-top-1, 0, 0, 9, 9, 9), bx(0, -top-1, 0, 9, 9, 9), bx(0, 0, -top-1, 9, 9, 9), bx(0, 0, 0, top+1, 9, 9), bx(0, 0, 0, 9, top+1, 9), bx(0, 0, 0, 9, 9, top+1), bx(0, 0, 0, math.MaxInt, 9, 9), bx(math.MaxInt, 0, 0, math.MinInt, 9, 9), bx(top+1, 9, 0, 9, 9, 9)} {
		boxes = append(boxes, defect{box.Check(b), func(v *api.Evidence) { v.Box = b }})
	}
	for _, state := range []int{unseen, clash, -1, clash + 1, math.MaxInt, math.MinInt, sound + 1<<32} {
		states = append(states, defect{api.ErrInvalid, func(v *api.Evidence) { v.State = state }})
	}
	return [][]defect{names, boxes, states}
}

// TestErrors has each defect alone, in each of three elements, and all pairs of defects in two elements: the first kind counts, in whichever element it is.
func TestErrors(t *testing.T) {
	three := func() []api.Evidence { return append(example(), ev("c", sound, whole)) }
	kinds := defects()
	for i, kind := range kinds {
		for k, d := range kind {
			for at := range 3 {
				list := three()
				d.spoil(&list[at])
				wantErrors(t, fmt.Sprintf("defect %d of kind %d in %d", k, i, at), list, d.code)
			}
			for n, later := range slices.Concat(kinds[i+1:]...) {
				for at := range 3 {
					list := three()
					later.spoil(&list[1])
					d.spoil(&list[at])
					if e := model.Check(list); e != d.code {
						t.Errorf("defect %d of kind %d in %d, and later one %d in 1: %d, not %d", k, i, at, n, e, d.code)
					}
				}
			}
		}
	}
	// Of two boxes the first one counts, whatever its error is.
	for _, d := range kinds[1] {
		for _, other := range kinds[1] {
			list := three()
			d.spoil(&list[1])
			other.spoil(&list[2])
			wantErrors(t, "two boxes with errors", list, d.code)
		}
	}
}

func TestErrorsOfLongLists(t *testing.T) {
	for _, list := range [][]api.Evidence{append(full(), example()[0]), make([]api.Evidence, api.MaxEvidence+1), make([]api.Evidence, 100000)} {
		wantErrors(t, fmt.Sprintf("%d elements", len(list)), list, api.ErrTooMany)
	}
	wantErrors(t, "empty elements", make([]api.Evidence, api.MaxEvidence), api.ErrName)
	// The last one of as many elements as possible counts, too.
	for _, kind := range defects() {
		list := full()
		kind[0].spoil(&list[api.MaxEvidence-1])
		wantErrors(t, "the last element", list, kind[0].code)
	}
}

func TestJoin(t *testing.T) {
	states := []int{unseen, sound, flawed, clash}
	for _, a := range states {
		for _, b := range states {
			want := clash
			switch {
			case a == unseen || a == b:
				want = b
			case b == unseen:
				want = a
			}
			j, e := model.Join(a, b)
			if j != want || e != api.OK {
				t.Errorf("Join of %d and %d: %d, %d, not %d", a, b, j, e, want)
			}
			if back, _ := model.Join(b, a); back != j {
				t.Errorf("Join of %d and %d is not that of %d and %d", a, b, b, a)
			}
			for _, c := range states {
				left, _ := model.Join(j, c)
				right, _ := model.Join(b, c)
				if right, _ = model.Join(a, right); left != right {
					t.Errorf("Join of %d, %d and %d: %d or %d", a, b, c, left, right)
				}
			}
		}
	}
	odd := []int{-1, clash + 1, math.MaxInt, math.MinInt, 1 << 32}
	for _, a := range odd {
		for _, b := range append(states, odd...) {
			for _, pair := range [][2]int{{a, b}, {b, a}} {
				if j, e := model.Join(pair[0], pair[1]); j != 0 || e != api.ErrInvalid {
					t.Errorf("Join of %v: %d, %d", pair, j, e)
				}
			}
		}
	}
}

func TestExamples(t *testing.T) {
	list := example()
	for cell, want := range map[api.Vec]int{pt(5, 5, 5): clash, pt(4, 5, 5): sound, pt(10, 10, 10): flawed, pt(20, 0, 0): unseen, pt(0, 0, 0): sound, pt(9, 9, 9): clash, pt(9, 9, 10): flawed, pt(14, 14, 14): flawed, pt(15, 14, 14): unseen, pt(-1, 0, 0): unseen} {
		if s, e := model.State(list, cell); s != want || e != api.OK {
			t.Errorf("State of %v: %d, %d, not %d", cell, s, e, want)
		}
	}
	if pairs, e := model.Clashes(list); !slices.Equal(pairs, [][2]int{{0, 1}}) || e != api.OK {
		t.Errorf("Clashes: %v, %d", pairs, e)
	}
	b := bx(0, 0, 0, 10, 10, 10)
	for state, want := range map[int]int64{clash: 125, sound: 875, flawed: 0, unseen: 0} {
		if n, e := model.Volume(list, b, state); n != want || e != api.OK {
			t.Errorf("Volume of %d: %d, %d, not %d", state, n, e, want)
		}
	}
	if v, e := model.First(list, b, clash); v != pt(5, 5, 5) || e != api.OK {
		t.Errorf("First: %v, %d", v, e)
	}
	if names, e := model.Sources(list, pt(5, 5, 5)); !slices.Equal(names, []string{"a", "b"}) || e != api.OK {
		t.Errorf("Sources: %q, %d", names, e)
	}
	list = append(list, ev("c", sound, b))
	for index, want := range []bool{true, false, true} {
		if is, e := model.Useless(list, index); is != want || e != api.OK {
			t.Errorf("Useless of %d: %v, %d", index, is, e)
		}
	}
	list = example()
	if rest, e := model.Without(list, "b"); !slices.Equal(rest, list[:1]) || e != api.OK {
		t.Errorf("Without b: %v, %d", rest, e)
	}
	for n := 1; n <= 2; n++ {
		if is, e := model.Useless(list[:n], 0); is || e != api.OK {
			t.Errorf("Useless of 0 in the first %d: %v, %d", n, is, e)
		}
	}
}

func TestErrorsOfCells(t *testing.T) {
	for _, n := range []int{-top, 1 - top, 0, top - 1} {
		for _, cell := range []api.Vec{pt(n, 0, 0), pt(0, n, 0), pt(0, 0, n), pt(n, n, n)} {
			list := []api.Evidence{ev("a", flawed, api.Box{Min: cell, Max: pt(cell.X+1, cell.Y+1, cell.Z+1)})}
			if s, e := model.State(list, cell); s != flawed || e != api.OK {
				t.Errorf("State of %v: %d, %d", cell, s, e)
			}
			if names, e := model.Sources(list, cell); !slices.Equal(names, []string{"a"}) || e != api.OK {
				t.Errorf("Sources of %v: %q, %d", cell, names, e)
			}
			if v, e := model.First(list, whole, flawed); v != cell || e != api.OK {
				t.Errorf("First of %v: %v, %d", cell, v, e)
			}
		}
	}
	for _, n := range []int{-top - 1, top, top + 1, math.MaxInt, math.MinInt} {
		for _, cell := range []api.Vec{pt(n, 0, 0), pt(0, n, 0), pt(0, 0, n), pt(n, n, n), pt(n, top, -top)} {
			for _, list := range [][]api.Evidence{nil, {ev("a", sound, whole)}, full()} {
				if s, e := model.State(list, cell); s != 0 || e != api.ErrRange {
					t.Errorf("State of %v: %d, %d", cell, s, e)
				}
				if names, e := model.Sources(list, cell); len(names) > 0 || e != api.ErrRange {
					t.Errorf("Sources of %v: %q, %d", cell, names, e)
				}
			}
		}
	}
}

func TestSources(t *testing.T) {
	one := bx(0, 0, 0, 1, 1, 1)
	list := []api.Evidence{ev("b", sound, one), ev("c", flawed, whole), ev("a", sound, one), ev("b", flawed, one), ev("B", sound, one), ev("b", sound, one), ev("far", sound, bx(1, 0, 0, 2, 1, 1)), ev("a b", flawed, one), ev("a!", flawed, one)}
	for cell, want := range map[api.Vec][]string{pt(0, 0, 0): {"B", "a", "a b", "a!", "b", "c"}, pt(1, 0, 0): {"c", "far"}, pt(0, 1, 0): {"c"}} {
		names, e := model.Sources(list, cell)
		if !slices.Equal(names, want) || e != api.OK {
			t.Errorf("Sources of %v: %q, %d, not %q", cell, names, e, want)
		}
	}
	if names, e := model.Sources(list[3:5], pt(0, 0, 1)); len(names) > 0 || e != api.OK {
		t.Errorf("Sources of an unseen cell: %q, %d", names, e)
	}
}

func TestWithout(t *testing.T) {
	list := []api.Evidence{ev("a", sound, whole), ev("b", sound, whole), ev("a", flawed, bx(0, 0, 0, 1, 1, 1)), ev("c", sound, whole), ev("a", sound, whole)}
	for source, want := range map[string][]api.Evidence{"a": {list[1], list[3]}, "b": {list[0], list[2], list[3], list[4]}, "c": {list[0], list[1], list[2], list[4]}, "d": list, "A": list, "": list, "a ": list, "\xff": list, strings.Repeat("a", 99): list} {
		rest, e := model.Without(list, source)
		if !slices.Equal(rest, want) || e != api.OK {
			t.Errorf("Without %q: %v, %d", source, rest, e)
		}
		for i := range rest {
			rest[i] = api.Evidence{}
		}
		if again, _ := model.Without(list, source); !slices.Equal(again, want) {
			t.Errorf("Without %q shares memory with its argument", source)
		}
	}
	for _, none := range [][]api.Evidence{nil, {}, {list[0], list[4]}} {
		if rest, e := model.Without(none, "a"); len(rest) > 0 || e != api.OK {
			t.Errorf("Without of %v: %v, %d", none, rest, e)
		}
	}
}

func TestClashes(t *testing.T) {
	at := func(n, state int) api.Evidence { return ev("a", state, bx(n, n, n, n+10, n+10, n+10)) }
	for _, c := range []struct {
		list []api.Evidence
		want [][2]int
	}{
		{nil, nil}, {[]api.Evidence{at(0, sound)}, nil}, {[]api.Evidence{at(0, sound), at(0, sound)}, nil}, {[]api.Evidence{at(0, flawed), at(5, flawed)}, nil},
		{[]api.Evidence{at(0, flawed), at(10, sound)}, nil}, {[]api.Evidence{at(0, flawed), at(9, sound)}, [][2]int{{0, 1}}}, {[]api.Evidence{at(0, flawed), at(0, sound)}, [][2]int{{0, 1}}},
		{[]api.Evidence{at(0, flawed), at(0, sound), at(0, flawed), at(0, sound)}, [][2]int{{0, 1}, {0, 3}, {1, 2}, {2, 3}}},
		{[]api.Evidence{at(20, sound), at(0, sound), at(15, flawed), at(5, flawed), ev("b", sound, whole)}, [][2]int{{0, 2}, {1, 3}, {2, 4}, {3, 4}}},
		{[]api.Evidence{ev("a", sound, bx(0, 0, 0, 10, 1, 1)), ev("b", flawed, bx(10, 0, 0, 20, 1, 1)), ev("c", flawed, bx(0, 1, 0, 10, 2, 1)), ev("d", flawed, bx(0, 0, 1, 10, 1, 2)), ev("e", flawed, bx(3, 0, 0, 4, 1, 1))}, [][2]int{{0, 4}}},
	} {
		if pairs, e := model.Clashes(c.list); !slices.Equal(pairs, c.want) || e != api.OK {
			t.Errorf("Clashes of %v: %v, %d, not %v", c.list, pairs, e, c.want)
		}
	}
	// Everything clashes with everything of the other state.
	list := full()
	for i := range list {
		list[i].Box = whole
	}
	pairs, e := model.Clashes(list)
	if len(pairs) != api.MaxEvidence*api.MaxEvidence/4 || e != api.OK {
		t.Errorf("%d clashes, %d", len(pairs), e)
	}
	if !slices.IsSortedFunc(pairs, func(p, q [2]int) int { return slices.Compare(p[:], q[:]) }) {
		t.Error("the clashes are not sorted")
	}
}

func TestErrorsOfUseless(t *testing.T) {
	for _, list := range [][]api.Evidence{nil, example(), full()} {
		for _, index := range []int{-1, len(list), len(list) + 1, math.MaxInt, math.MinInt} {
			if is, e := model.Useless(list, index); is || e != api.ErrRange {
				t.Errorf("Useless of %d of %d: %v, %d", index, len(list), is, e)
			}
		}
	}
}

func TestUseless(t *testing.T) {
	half, other := bx(0, 0, 0, 5, 9, 9), bx(5, 0, 0, 9, 9, 9)
	b := bx(0, 0, 0, 9, 9, 9)
	for _, c := range []struct {
		list []api.Evidence
		want []bool
	}{
		{[]api.Evidence{ev("a", sound, b)}, []bool{false}}, {[]api.Evidence{ev("a", sound, b), ev("a", sound, b)}, []bool{true, true}}, {[]api.Evidence{ev("a", sound, b), ev("a", flawed, b)}, []bool{false, false}},
		{[]api.Evidence{ev("a", sound, half), ev("a", sound, b), ev("b", sound, other)}, []bool{true, true, true}}, {[]api.Evidence{ev("a", sound, half), ev("a", sound, b)}, []bool{true, false}}, {[]api.Evidence{ev("a", flawed, half), ev("b", flawed, other), ev("a", flawed, b), ev("c", sound, b)}, []bool{true, true, true, false}},
		{[]api.Evidence{ev("a", sound, half), ev("b", sound, other), ev("c", flawed, b)}, []bool{false, false, false}}, {[]api.Evidence{ev("a", sound, b), ev("b", sound, b), ev("c", flawed, half), ev("d", flawed, half)}, []bool{true, true, true, true}},
		{[]api.Evidence{ev("a", sound, bx(0, 0, 0, 9, 9, 8)), ev("b", sound, b)}, []bool{true, false}}, {[]api.Evidence{ev("a", sound, whole), ev("b", sound, b)}, []bool{false, true}},
	} {
		for index, want := range c.want {
			if is, e := model.Useless(c.list, index); is != want || e != api.OK {
				t.Errorf("Useless of %d of %v: %v, %d, not %v", index, c.list, is, e, want)
			}
		}
	}
	// At both ends of the longest list.
	list := full()
	for i := range list {
		list[i] = ev("a", sound, bx(i, 0, 0, i+1, 1, 1))
	}
	for _, index := range []int{0, api.MaxEvidence - 1} {
		if is, e := model.Useless(list, index); is || e != api.OK {
			t.Errorf("Useless of %d: %v, %d", index, is, e)
		}
	}
	list[100].Box = bx(0, 0, 0, api.MaxEvidence, 1, 1)
	for _, index := range []int{0, api.MaxEvidence - 1} {
		if is, e := model.Useless(list, index); !is || e != api.OK {
			t.Errorf("Useless of %d in a longer one: %v, %d", index, is, e)
		}
	}
}

func TestResultsShareNothing(t *testing.T) {
	list := example()
	names, _ := model.Sources(list, pt(5, 5, 5))
	more, _ := model.Sources(list, pt(5, 5, 5))
	names[0] = "x"
	pairs, _ := model.Clashes(list)
	others, _ := model.Clashes(list)
	pairs[0] = [2]int{7, 7}
	if more[0] != "a" || others[0] != [2]int{0, 1} || !reflect.DeepEqual(list, example()) {
		t.Error("results share memory")
	}
}
