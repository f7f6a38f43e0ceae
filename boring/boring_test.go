package boring_test

import (
	"fmt"
	"math"
	"math/rand"
	"reflect"
	"slices"
	"testing"

	"gangsaw/api"
	"gangsaw/boring"
	"gangsaw/box"
	"gangsaw/survey"
)

const (
	top    = api.MaxCoord
	sound  = api.Sound
	flawed = api.Flawed
)

func at(x, y int) api.Point {
	return api.Point{X: x, Y: y}
}

// bx returns the box from the first three numbers to the last three.
func bx(x, y, z, toX, toY, toZ int) api.Box {
	return api.Box{Min: api.Vec{X: x, Y: y, Z: z}, Max: api.Vec{X: toX, Y: toY, Z: toZ}}
}

// logs returns the logs lo, hi, state, lo, hi, state ..
func logs(numbers ...int) []api.Log {
	var list []api.Log
	for i := 0; i < len(numbers); i += 3 {
		list = append(list, api.Log{Lo: numbers[i], Hi: numbers[i+1], State: numbers[i+2]})
	}
	return list
}

// b1 is the boring of the chapter's examples.
func b1() api.Boring {
	return api.Boring{Name: "b1", At: at(5, 5), Logs: logs(0, 10, sound, 10, 20, sound, 25, 30, flawed)}
}

// full has as many logs as possible, which touch and change, from one end to the other.
func full() api.Boring {
	b := api.Boring{Name: "abcdefghijklmnopqrstuvwx", At: at(-top, top-1)}
	for i := range api.MaxLogs {
		b.Logs = append(b.Logs, api.Log{Lo: i - 30, Hi: i - 29, State: sound + i%2})
	}
	b.Logs[0].Lo, b.Logs[api.MaxLogs-1].Hi = -top, top
	return b
}

func same(a, b api.Boring) bool {
	return a.Name == b.Name && a.At == b.At && slices.Equal(a.Logs, b.Logs)
}

// pit has both borings at its ends.
var pit = bx(-10, 0, -30, 6, 6, 40)

var whole = bx(-top, -top, -top, top, top, top)

// calls has the functions of one boring; each tells its error, and whether its other results are zero values.
func calls(inPit bool, p api.Box) map[string]func(api.Boring) (api.Errno, bool) {
	if inPit {
		return map[string]func(api.Boring) (api.Errno, bool){
			"Check":    func(b api.Boring) (api.Errno, bool) { return boring.Check(b, p), true },
			"CheckAll": func(b api.Boring) (api.Errno, bool) { return boring.CheckAll([]api.Boring{b}, p), true },
			"Against": func(b api.Boring) (api.Errno, bool) {
				list, e := boring.Against(b, api.Survey{Pit: p})
				return e, len(list) == 0
			},
		}
	}
	good := b1()
	return map[string]func(api.Boring) (api.Errno, bool){
		"Normal": func(b api.Boring) (api.Errno, bool) {
			n, e := boring.Normal(b)
			return e, same(n, api.Boring{})
		},
		"Evidence": func(b api.Boring) (api.Errno, bool) {
			list, e := boring.Evidence(b)
			return e, len(list) == 0
		},
		"Merge": func(b api.Boring) (api.Errno, bool) {
			m, e := boring.Merge(b, b)
			return e, same(m, api.Boring{})
		},
		"Merge with a good one": func(b api.Boring) (api.Errno, bool) {
			g := good
			g.At = b.At
			if boring.Check(g, whole) != api.OK {
				g.At = good.At
			}
			m, e := boring.Merge(g, b)
			return e, same(m, api.Boring{})
		},
		"Line": func(b api.Boring) (api.Errno, bool) {
			l, e := boring.Line(b)
			return e, len(l.Tokens) == 0 && !l.Heading && len(l.Kids) == 0 && l.At == 0
		},
	}
}

func TestSignatures(t *testing.T) {
	var (
		_ func(api.Boring, api.Box) api.Errno                         = boring.Check
		_ func([]api.Boring, api.Box) api.Errno                       = boring.CheckAll
		_ func(api.Boring, int) int                                   = boring.State
		_ func(b api.Boring, state int) (total, longest int)          = boring.Seen
		_ func(api.Boring) (api.Boring, api.Errno)                    = boring.Normal
		_ func(api.Boring) ([]api.Evidence, api.Errno)                = boring.Evidence
		_ func(a, b api.Boring) (api.Boring, api.Errno)               = boring.Merge
		_ func(api.Boring, api.Survey) ([]boring.Conflict, api.Errno) = boring.Against
		_ func([]api.Boring, api.Point) (int, api.Errno)              = boring.Nearest
		_ func(api.Line) (api.Boring, api.Fault)                      = boring.Load
		_ func(api.Boring) (api.Line, api.Errno)                      = boring.Line
		_                                                             = boring.Conflict{Flaw: "f", Lo: 0, Hi: 1}
	)
}

func TestGoodBorings(t *testing.T) {
	for i, b := range []api.Boring{b1(), full(), {Name: "a"}, {Name: "a", Logs: logs(0, 1, flawed)}, {Name: "a", Logs: logs(-top, top, sound)}, {Name: "a", At: at(top-1, -top), Logs: logs(-5, 0, sound, 0, 5, sound, 9, 10, flawed)}} {
		for _, inPit := range []bool{true, false} {
			for name, call := range calls(inPit, whole) {
				if e, _ := call(b); e != api.OK && (name != "Merge with a good one" || e != api.ErrConflict) {
					t.Errorf("%s of boring %d: %d", name, i, e)
				}
			}
		}
	}
}

// defect makes a boring wrong in one way, the second one of its logs.
type defect struct {
	code  api.Errno
	spoil func(b *api.Boring)
}

// defects are ordered like the errors, within a pit.
func defects(p api.Box, far api.Errno) [][]defect {
	var names, invalid, outside []defect
	for _, name := range []string{"", "B", "1", "_", "b 1", "bB", "ß", "abcdefghijklmnopqrstuvwxy"} {
		names = append(names, defect{api.ErrName, func(b *api.Boring) { b.Name = name }})
	}
	many := []defect{{api.ErrTooMany, func(b *api.Boring) { b.Logs = append(b.Logs, make([]api.Log, api.MaxLogs+1-len(b.Logs))...) }}, {api.ErrTooMany, func(b *api.Boring) { b.Logs = append(b.Logs, make([]api.Log, 5000)...) }}}
	for _, state := range []int{api.Unseen, api.Clash, -1, math.MaxInt, math.MinInt} {
		invalid = append(invalid, defect{api.ErrInvalid, func(b *api.Boring) { b.Logs[1].State = state }}, defect{api.ErrInvalid, func(b *api.Boring) { b.Logs[0].State = state }})
	}
	for _, by := range []int{0, 1, math.MaxInt} {
		invalid = append(invalid, defect{api.ErrInvalid, func(b *api.Boring) { b.Logs[2].Hi = b.Logs[2].Lo - by }})
	}
	for _, n := range []int{1, 7, math.MaxInt - top} {
		outside = append(outside,
			defect{far, func(b *api.Boring) { b.At.X = p.Min.X - n }}, defect{far, func(b *api.Boring) { b.At.X = p.Max.X - 1 + n }}, defect{far, func(b *api.Boring) { b.At.Y = p.Min.Y - n }}, defect{far, func(b *api.Boring) { b.At.Y = p.Max.Y - 1 + n }},
			defect{far, func(b *api.Boring) { b.Logs[0].Lo = p.Min.Z - n }}, defect{far, func(b *api.Boring) { b.Logs[2].Hi = p.Max.Z + n }}, defect{far, func(b *api.Boring) { b.Logs[1] = api.Log{Lo: p.Min.Z - n, Hi: p.Max.Z, State: sound} }}, defect{far, func(b *api.Boring) { b.Logs[0] = api.Log{Lo: p.Max.Z, Hi: p.Max.Z + n, State: sound} }})
	}
	overlap := []defect{{api.ErrOverlap, func(b *api.Boring) { b.Logs[1].Lo-- }}, {api.ErrOverlap, func(b *api.Boring) { b.Logs[0], b.Logs[1] = b.Logs[1], b.Logs[0] }}, {api.ErrOverlap, func(b *api.Boring) { b.Logs[2] = b.Logs[1] }}, {api.ErrOverlap, func(b *api.Boring) { b.Logs[2].Lo = 19 }}, {api.ErrOverlap, func(b *api.Boring) { slices.Reverse(b.Logs) }}}
	return [][]defect{names, many, invalid, outside, overlap}
}

// TestErrors has each defect alone, and all pairs of defects of different kinds: the first kind counts.
func TestErrors(t *testing.T) {
	for _, inPit := range []bool{true, false} {
		p, far := whole, api.ErrRange
		if inPit {
			p, far = pit, api.ErrOutside
		}
		kinds := defects(p, far)
		for i, kind := range kinds {
			for k, d := range kind {
				for n, later := range append([]defect{{}}, slices.Concat(kinds[i+1:]...)...) {
					b := b1()
					if n > 0 {
						later.spoil(&b)
					}
					d.spoil(&b)
					before := slices.Clone(b.Logs)
					for name, call := range calls(inPit, p) {
						if e, zero := call(b); e != d.code || !zero {
							t.Errorf("%s with defect %d of kind %d before one with %d: %d (other results zero: %v), not %d", name, k, i, later.code, e, zero, d.code)
						}
					}
					if !slices.Equal(b.Logs, before) {
						t.Errorf("the logs %v are changed to %v", before, b.Logs)
					}
				}
			}
		}
	}
}

// TestErrorsOfLists has different errors in different borings: each is looked for in all of them before the next one.
func TestErrorsOfLists(t *testing.T) {
	kinds := defects(pit, api.ErrOutside)
	for i, kind := range kinds {
		for _, d := range kind {
			for _, later := range slices.Concat(kinds[i:]...) {
				list := []api.Boring{b1(), b1(), b1()}
				later.spoil(&list[0])
				d.spoil(&list[2])
				if e := boring.CheckAll(list, pit); e != d.code {
					t.Errorf("CheckAll of a boring with %d behind one with %d: %d", d.code, later.code, e)
				}
				// Of two borings that are merged the first one counts, whatever its error is.
				if a, e := boring.Merge(list[2], list[0]); boring.Check(list[2], whole) == d.code && (e != want(d.code) || !same(a, api.Boring{})) {
					t.Errorf("Merge of a boring with %d and one with %d: %v, %d", d.code, later.code, a, e)
				}
				if a, e := boring.Merge(list[0], list[2]); boring.Check(list[0], whole) == later.code && (e != want(later.code) || !same(a, api.Boring{})) {
					t.Errorf("Merge of a boring with %d and one with %d: %v, %d", later.code, d.code, a, e)
				}
			}
		}
	}
	if e := boring.CheckAll([]api.Boring{b1(), {Name: "a"}, b1()}, pit); e != api.ErrDuplicate {
		t.Errorf("CheckAll of borings with one name: %d", e)
	}
	if e := boring.CheckAll([]api.Boring{b1(), {Name: "a"}, {Name: "b"}, b1(), {Name: "c"}, {Name: "d", Logs: logs(0, 2, sound, 1, 3, sound)}}, pit); e != api.ErrOverlap {
		t.Errorf("CheckAll of borings with one name, and one with logs that overlap: %d", e)
	}
	var many []api.Boring
	for i := range api.MaxBorings {
		many = append(many, api.Boring{Name: fmt.Sprintf("b%d", 99-i), At: at(i%16-10, 0), Logs: logs(-30, 40, flawed)})
	}
	for _, list := range [][]api.Boring{nil, {}, {b1()}, many} {
		if e := boring.CheckAll(list, pit); e != api.OK {
			t.Errorf("CheckAll of %d borings: %d", len(list), e)
		}
	}
	for _, list := range [][]api.Boring{append(many, b1()), make([]api.Boring, 65), make([]api.Boring, 100000)} {
		for _, p := range []api.Box{pit, {}} {
			if e := boring.CheckAll(list, p); e != api.ErrTooMany {
				t.Errorf("CheckAll of %d borings: %d", len(list), e)
			}
		}
	}
}

// want is the error of a boring that need not lie in a pit.
func want(code api.Errno) api.Errno {
	if code == api.ErrOutside {
		return api.ErrRange
	}
	return code
}

func TestErrorsOfPits(t *testing.T) {
	far := b1()
	far.Name = "?"
	for _, p := range []api.Box{{}, bx(0, 0, 0, 0, 9, 9), bx(0, 0, 9, 9, 9, 9), bx(0, 9, 0, 9, 8, 9), bx(-top-1, 0, 0, 9, 9, 9), bx(0, 0, 0, 9, 9, top+1), bx(0, 0, 0, math.MaxInt, 9, 9), bx(math.MaxInt, 0, 0, math.MinInt, 9, 9), bx(top+1, 9, 0, 9, 9, 9)} {
		for _, b := range []api.Boring{b1(), far, {}} {
			for name, call := range calls(true, p) {
				if e, zero := call(b); e != box.Check(p) || e == api.OK || !zero {
					t.Errorf("%s in the pit %v: %d (other results zero: %v), not %d", name, p, e, zero, box.Check(p))
				}
			}
		}
		if e := boring.CheckAll(nil, p); e != box.Check(p) {
			t.Errorf("CheckAll of nothing in the pit %v: %d", p, e)
		}
	}
	// The survey comes before the boring.
	s := api.Survey{Pit: pit, Beds: []api.Bed{{Name: "b", Z: 41}}}
	for _, b := range []api.Boring{b1(), far} {
		if list, e := boring.Against(b, s); e != api.ErrOutside || len(list) > 0 {
			t.Errorf("Against a survey with an error: %v, %d", list, e)
		}
	}
	if _, e := boring.Against(far, api.Survey{Pit: pit}); e != api.ErrName {
		t.Errorf("Against: %d", e)
	}
}

// TestEndsOfPits has borings in the corners of a pit, whose logs go from end to end.
func TestEndsOfPits(t *testing.T) {
	for _, p := range []api.Box{pit, whole, bx(3, 3, 3, 4, 4, 4), bx(top-1, -top, 5, top, 1-top, 7)} {
		for _, x := range []int{p.Min.X - 1, p.Min.X, p.Max.X - 1, p.Max.X} {
			for _, y := range []int{p.Min.Y - 1, p.Min.Y, p.Max.Y - 1, p.Max.Y} {
				b := api.Boring{Name: "b", At: at(x, y), Logs: logs(p.Min.Z, p.Max.Z, sound)}
				wantError, wantFormed := api.OK, api.OK
				if x < p.Min.X || x == p.Max.X || y < p.Min.Y || y == p.Max.Y {
					wantError = api.ErrOutside
				}
				if max(x, y) >= top || min(x, y) < -top {
					wantFormed = api.ErrRange
				}
				for name, call := range calls(true, p) {
					if e, _ := call(b); e != wantError {
						t.Errorf("%s at %v in the pit %v: %d, not %d", name, b.At, p, e, wantError)
					}
				}
				for _, name := range []string{"Normal", "Evidence", "Merge", "Line"} {
					if e, _ := calls(false, p)[name](b); e != wantFormed {
						t.Errorf("%s at %v: %d, not %d", name, b.At, e, wantFormed)
					}
				}
			}
		}
	}
}

func TestExamples(t *testing.T) {
	b := b1()
	for z, want := range map[int]int{-1: api.Unseen, 0: sound, 9: sound, 10: sound, 19: sound, 20: api.Unseen, 24: api.Unseen, 25: flawed, 29: flawed, 30: api.Unseen} {
		if s := boring.State(b, z); s != want {
			t.Errorf("State at %d: %d, not %d", z, s, want)
		}
	}
	for state, want := range map[int][2]int{sound: {20, 20}, flawed: {5, 5}, api.Unseen: {}, api.Clash: {}, -1: {}} {
		if total, longest := boring.Seen(b, state); [2]int{total, longest} != want {
			t.Errorf("Seen of %d: %d, %d, not %v", state, total, longest, want)
		}
	}
	if n, e := boring.Normal(b); !same(n, api.Boring{Name: "b1", At: at(5, 5), Logs: logs(0, 20, sound, 25, 30, flawed)}) || e != api.OK {
		t.Errorf("Normal: %v, %d", n, e)
	}
	evidence := []api.Evidence{{Source: "b1", Box: bx(5, 5, 0, 6, 6, 20), State: sound}, {Source: "b1", Box: bx(5, 5, 25, 6, 6, 30), State: flawed}}
	if list, e := boring.Evidence(b); !slices.Equal(list, evidence) || e != api.OK {
		t.Errorf("Evidence: %v, %d", list, e)
	}
	other := api.Boring{Name: "c", At: at(5, 5), Logs: logs(18, 25, sound)}
	if m, e := boring.Merge(b, other); !same(m, api.Boring{Name: "b1", At: at(5, 5), Logs: logs(0, 25, sound, 25, 30, flawed)}) || e != api.OK {
		t.Errorf("Merge: %v, %d", m, e)
	}
	if m, e := boring.Merge(b, api.Boring{Name: "c", At: at(5, 5), Logs: logs(15, 16, flawed)}); e != api.ErrConflict || !same(m, api.Boring{}) {
		t.Errorf("Merge of borings that contradict each other: %v, %d", m, e)
	}
	other.At.X++
	if m, e := boring.Merge(b, other); e != api.ErrConflict || !same(m, api.Boring{}) {
		t.Errorf("Merge of borings at different points: %v, %d", m, e)
	}
	s := api.Survey{Pit: bx(0, 0, 0, 50, 50, 50), Flaws: []api.Flaw{{Name: "f", Prism: api.Prism{Base: api.Polygon{{}, {X: 10}, {X: 10, Y: 10}, {Y: 10}}, Lo: 15, Hi: 40}}}}
	if list, e := boring.Against(b, s); !slices.Equal(list, []boring.Conflict{{Flaw: "f", Lo: 15, Hi: 20}}) || e != api.OK {
		t.Errorf("Against: %v, %d", list, e)
	}
}

// TestStateOfAnyBoring has logs in disorder, of any numbers and states: the first one counts.
func TestStateOfAnyBoring(t *testing.T) {
	b := api.Boring{Logs: logs(5, 9, flawed, 0, 7, sound, 8, 8, sound, 20, 10, sound, 9, 12, 7, 11, 14, -1, -5, 0, api.Unseen, -9, 3, flawed, math.MinInt, math.MaxInt, 99)}
	for z, want := range map[int]int{4: sound, 5: flawed, 6: flawed, 8: flawed, 9: 7, 11: 7, 12: -1, 13: -1, 14: 99, 15: 99, 0: sound, -1: api.Unseen, -5: api.Unseen, -6: flawed, -9: flawed, -10: 99, math.MinInt: 99, math.MaxInt - 1: 99, math.MaxInt: api.Unseen} {
		if s := boring.State(b, z); s != want {
			t.Errorf("State at %d: %d, not %d", z, s, want)
		}
	}
	if s := boring.State(api.Boring{Logs: make([]api.Log, 1000)}, 0); s != api.Unseen {
		t.Errorf("State with empty logs: %d", s)
	}
}

func TestSeenOfAnyBoring(t *testing.T) {
	for _, c := range []struct {
		list           []api.Log
		state          int
		total, longest int
	}{
		{nil, sound, 0, 0}, {logs(0, 5, sound), flawed, 0, 0}, {logs(0, 5, sound, 6, 9, sound, 9, 11, sound, 11, 12, flawed, 12, 20, sound), sound, 18, 8}, {logs(0, 5, flawed, 5, 9, flawed, 9, 11, sound, 11, 19, flawed), flawed, 17, 9},
		// Not increasing.
		{logs(0, 5, sound, 4, 9, sound), sound, 0, 0}, {logs(5, 9, sound, 0, 5, flawed), sound, 0, 0}, {logs(0, 5, sound, 9, 9, sound), sound, 0, 0}, {logs(0, 5, sound, 9, 8, flawed), sound, 0, 0}, {logs(0, 5, sound, 5, 6, sound, 5, 7, flawed), flawed, 0, 0}, {logs(5, 0, sound), sound, 0, 0},
		// Other states, and numbers out of range.
		{logs(0, 5, 7, 5, 9, sound), sound, 4, 4}, {logs(0, 5, 7, 5, 9, sound), 7, 0, 0}, {logs(0, 5, api.Unseen), api.Unseen, 0, 0}, {logs(0, 5, api.Clash), api.Clash, 0, 0}, {logs(0, 5, -1), -1, 0, 0}, {logs(0, 5, sound, 5, 6, 9, 6, 8, sound), sound, 7, 5},
		{logs(math.MinInt, math.MinInt+7, sound, math.MaxInt-9, math.MaxInt, sound), sound, 16, 9}, {logs(0, math.MaxInt, flawed), flawed, math.MaxInt, math.MaxInt}, {logs(-8, math.MaxInt-9, flawed), flawed, math.MaxInt - 1, math.MaxInt - 1},
		// What is too great for an int.
		{logs(math.MinInt, math.MaxInt, sound), sound, math.MaxInt, math.MaxInt}, {logs(math.MinInt, 0, sound, 1, math.MaxInt, sound), sound, math.MaxInt, math.MaxInt}, {logs(math.MinInt, -5, sound, -5, 0, flawed, 0, math.MaxInt, sound), sound, math.MaxInt, math.MaxInt}, {logs(math.MinInt, -5, sound, -5, 0, flawed, 0, math.MaxInt, sound), flawed, 5, 5},
	} {
		if total, longest := boring.Seen(api.Boring{Logs: c.list}, c.state); total != c.total || longest != c.longest {
			t.Errorf("Seen of %d in %v: %d, %d, not %d, %d", c.state, c.list, total, longest, c.total, c.longest)
		}
	}
	long := api.Boring{Name: "?"}
	for i := range 5000 {
		long.Logs = append(long.Logs, api.Log{Lo: 2 * i, Hi: 2*i + 2 - i%2, State: sound})
	}
	if total, longest := boring.Seen(long, sound); total != 7500 || longest != 3 {
		t.Errorf("Seen in many logs: %d, %d", total, longest)
	}
}

// reach is the z around 0 that small borings can say something about.
const reach = 12

// said has what a boring says at each z from -reach on.
type said [2 * reach]int

// someBoring makes a small boring out of what it says, cut into logs at random.
func someBoring(random *rand.Rand, name string, p api.Point) (api.Boring, said) {
	b := api.Boring{Name: name, At: p}
	var states said
	for i := range states {
		z := i - reach
		states[i] = random.Intn(3)
		if i > 0 && random.Intn(3) > 0 {
			states[i] = states[i-1]
		}
		last := len(b.Logs) - 1
		switch {
		case states[i] == api.Unseen:
		case last >= 0 && b.Logs[last].Hi == z && b.Logs[last].State == states[i] && random.Intn(4) > 0:
			b.Logs[last].Hi++
		default:
			b.Logs = append(b.Logs, api.Log{Lo: z, Hi: z + 1, State: states[i]})
		}
	}
	return b, states
}

// logsOf has the fewest logs that say the same.
func logsOf(states said) []api.Log {
	var list []api.Log
	for i, state := range states {
		if last := len(list) - 1; last >= 0 && list[last].Hi == i-reach && list[last].State == state {
			list[last].Hi++
		} else if state != api.Unseen {
			list = append(list, api.Log{Lo: i - reach, Hi: i - reach + 1, State: state})
		}
	}
	return list
}

// runs returns how many of some states are a given one, and the longest run of it.
func runs(states said, state int) (int, int) {
	total, run, longest := 0, 0, 0
	for _, s := range states {
		if s == state {
			total, run = total+1, run+1
		} else {
			run = 0
		}
		longest = max(longest, run)
	}
	return total, longest
}

func TestSmallBorings(t *testing.T) {
	random := rand.New(rand.NewSource(1))
	for range 5000 {
		b, states := someBoring(random, "b", at(random.Intn(9)-4, random.Intn(9)-4))
		if e := boring.Check(b, bx(-4, -4, -reach, 5, 5, reach)); e != api.OK {
			t.Errorf("Check of %v: %d", b, e)
		}
		normal, e := boring.Normal(b)
		if !same(normal, api.Boring{Name: "b", At: b.At, Logs: logsOf(states)}) || e != api.OK {
			t.Errorf("Normal of %v: %v, %d, not %v", b, normal, e, logsOf(states))
		}
		if again, e := boring.Normal(normal); !same(again, normal) || e != api.OK {
			t.Errorf("Normal of the normal form %v: %v, %d", normal, again, e)
		}
		for z := -reach - 2; z < reach+2; z++ {
			want := api.Unseen
			if z >= -reach && z < reach {
				want = states[z+reach]
			}
			if boring.State(b, z) != want || boring.State(normal, z) != want {
				t.Errorf("State at %d of %v: %d, of %v: %d, not %d", z, b, boring.State(b, z), normal, boring.State(normal, z), want)
			}
		}
		for _, state := range []int{sound, flawed} {
			total, longest := boring.Seen(b, state)
			if wantTotal, wantLongest := runs(states, state); total != wantTotal || longest != wantLongest || longest > total {
				t.Errorf("Seen of %d in %v: %d, %d", state, b, total, longest)
			}
		}
		wantEvidence(t, b, states)
	}
}

func wantEvidence(t *testing.T, b api.Boring, states said) {
	t.Helper()
	list, e := boring.Evidence(b)
	if e != api.OK || len(list) != len(logsOf(states)) {
		t.Errorf("Evidence of %v: %v, %d", b, list, e)
	}
	var boxes []api.Box
	for i, l := range logsOf(states) {
		if want := (api.Evidence{Source: b.Name, Box: bx(b.At.X, b.At.Y, l.Lo, b.At.X+1, b.At.Y+1, l.Hi), State: l.State}); list[i] != want {
			t.Errorf("Evidence of %v: %v, not %v", b, list[i], want)
		}
		boxes = append(boxes, list[i].Box)
	}
	if _, _, e := box.Clash(boxes); e != api.ErrNone {
		t.Errorf("Evidence of %v: %v, with boxes that overlap: %d", b, list, e)
	}
}

// together returns what two borings say together, and whether they contradict each other.
func together(a, b said) (said, bool) {
	var both said
	for i := range both {
		if a[i] != api.Unseen && b[i] != api.Unseen && a[i] != b[i] {
			return said{}, true
		}
		both[i] = a[i] | b[i]
	}
	return both, false
}

func TestMerge(t *testing.T) {
	random := rand.New(rand.NewSource(2))
	merged, refused := 0, 0
	for range 20000 {
		p := at(random.Intn(2), random.Intn(2))
		a, ofA := someBoring(random, "a", p)
		b, ofB := someBoring(random, "b", at(p.X, p.Y+random.Intn(5)/4))
		if random.Intn(2) == 0 {
			// A boring that is mute where the other one contradicts it.
			for i := range ofB {
				if ofA[i] != api.Unseen && ofB[i] != ofA[i] {
					ofB[i] = api.Unseen
				}
			}
			b.Logs = logsOf(ofB)
		}
		both, contradict := together(ofA, ofB)
		want, code := api.Boring{Name: "a", At: p, Logs: logsOf(both)}, api.OK
		if contradict || a.At != b.At {
			want, code = api.Boring{}, api.ErrConflict
			refused++
		} else {
			merged++
		}
		m, e := boring.Merge(a, b)
		if !same(m, want) || e != code {
			t.Errorf("Merge of %v and %v: %v, %d, not %v, %d", a, b, m, e, want, code)
		}
		other, e := boring.Merge(b, a)
		if code == api.OK {
			want.Name = "b"
		}
		if !same(other, want) || e != code {
			t.Errorf("Merge of %v and %v: %v, %d, not %v, %d", b, a, other, e, want, code)
		}
	}
	if merged < 2000 || refused < 2000 {
		t.Errorf("%d merged, %d refused", merged, refused)
	}
}

// TestMergeOfManyLogs has borings that fill each other's gaps: together they may have more than MaxLogs logs.
func TestMergeOfManyLogs(t *testing.T) {
	a, b := api.Boring{Name: "a"}, api.Boring{Name: "b"}
	var all, one []api.Log
	for i := range api.MaxLogs {
		a.Logs = append(a.Logs, api.Log{Lo: 4 * i, Hi: 4*i + 2, State: sound})
		b.Logs = append(b.Logs, api.Log{Lo: 4*i + 2, Hi: 4*i + 4, State: flawed})
	}
	for i := range a.Logs {
		all = append(all, a.Logs[i], b.Logs[i])
	}
	m, e := boring.Merge(a, b)
	if !same(m, api.Boring{Name: "a", Logs: all}) || e != api.OK {
		t.Errorf("Merge of many logs: %v, %d", m, e)
	}
	if _, e := boring.Normal(m); e != api.ErrTooMany {
		t.Errorf("Normal of many logs: %d", e)
	}
	if _, e := boring.Merge(m, a); e != api.ErrTooMany {
		t.Errorf("Merge of too many logs: %d", e)
	}
	if _, e := boring.Merge(a, m); e != api.ErrTooMany {
		t.Errorf("Merge with too many logs: %d", e)
	}
	for i := range b.Logs {
		b.Logs[i].State = sound
	}
	one = logs(0, 4*api.MaxLogs, sound)
	if m, e := boring.Merge(b, a); !same(m, api.Boring{Name: "b", Logs: one}) || e != api.OK {
		t.Errorf("Merge of many logs with one state: %v, %d", m, e)
	}
	empty := api.Boring{Name: "e"}
	if m, e := boring.Merge(empty, a); !same(m, api.Boring{Name: "e", Logs: a.Logs}) || e != api.OK {
		t.Errorf("Merge of no logs: %v, %d", m, e)
	}
	if m, e := boring.Merge(empty, empty); !same(m, empty) || e != api.OK {
		t.Errorf("Merge of no logs at all: %v, %d", m, e)
	}
	b = full()
	if m, e := boring.Merge(b, b); !same(m, b) || e != api.OK {
		t.Errorf("Merge of a boring with itself: %v, %d", m, e)
	}
}

// slowAgainst asks at each z whether the boring says sound and the flaw overlaps the cell.
func slowAgainst(b api.Boring, s api.Survey) []boring.Conflict {
	var list []boring.Conflict
	for _, f := range s.Flaws {
		from := len(list)
		for z := s.Pit.Min.Z; z < s.Pit.Max.Z; z++ {
			names, _ := survey.Flaws(s, bx(b.At.X, b.At.Y, z, b.At.X+1, b.At.Y+1, z+1))
			if boring.State(b, z) != sound || !slices.Contains(names, f.Name) {
				continue
			}
			if last := len(list) - 1; last >= from && list[last].Hi == z {
				list[last].Hi++
			} else {
				list = append(list, boring.Conflict{Flaw: f.Name, Lo: z, Hi: z + 1})
			}
		}
	}
	return list
}

func TestAgainst(t *testing.T) {
	bases := []api.Polygon{{{X: 0, Y: 0}, {X: 4, Y: 0}, {X: 0, Y: 4}}, {{X: 1, Y: 1}, {X: 3, Y: 1}, {X: 3, Y: 4}, {X: 1, Y: 4}}, {{X: 4, Y: 4}, {X: 0, Y: 4}, {X: 4, Y: 0}}, {{X: 2, Y: 0}, {X: 4, Y: 2}, {X: 2, Y: 4}, {X: 0, Y: 2}}}
	random := rand.New(rand.NewSource(4))
	for range 1500 {
		s := api.Survey{Pit: bx(0, 0, -reach, 4, 4, reach)}
		for i := range random.Intn(4) {
			lo := random.Intn(2*reach) - reach
			s.Flaws = append(s.Flaws, api.Flaw{Name: fmt.Sprintf("f%d", i), Prism: api.Prism{Base: bases[random.Intn(4)], Lo: lo, Hi: lo + 1 + random.Intn(reach-lo)}})
		}
		b, _ := someBoring(random, "b", at(random.Intn(4), random.Intn(4)))
		if list, e := boring.Against(b, s); !slices.Equal(list, slowAgainst(b, s)) || e != api.OK {
			t.Errorf("Against of %v and %v: %v, %d, not %v", b, s, list, e, slowAgainst(b, s))
		}
	}
}

// TestAgainstAtEnds has a flaw that touches the ends of logs.
func TestAgainstAtEnds(t *testing.T) {
	base := api.Polygon{{X: 0, Y: 0}, {X: 10, Y: 0}, {X: 10, Y: 10}, {X: 0, Y: 10}}
	b := api.Boring{Name: "b", At: at(9, 9), Logs: logs(0, 10, sound, 10, 20, sound, 20, 30, flawed, 40, 50, sound)}
	for _, c := range []struct {
		lo, hi int
		want   [][2]int
	}{
		{-20, 0, nil}, {-20, 1, [][2]int{{0, 1}}}, {-20, 15, [][2]int{{0, 15}}}, {10, 20, [][2]int{{10, 20}}}, {9, 21, [][2]int{{9, 20}}}, {20, 40, nil}, {19, 41, [][2]int{{19, 20}, {40, 41}}}, {20, 30, nil}, {49, 60, [][2]int{{49, 50}}}, {50, 60, nil}, {-20, 60, [][2]int{{0, 20}, {40, 50}}}, {5, 6, [][2]int{{5, 6}}},
	} {
		flaw := api.Flaw{Name: "f", Prism: api.Prism{Base: base, Lo: c.lo, Hi: c.hi}}
		other := api.Flaw{Name: "g", Prism: flaw.Prism}
		s := api.Survey{Pit: bx(0, 0, -20, 20, 20, 60), Flaws: []api.Flaw{flaw, other}}
		var want []boring.Conflict
		for _, name := range []string{"f", "g"} {
			for _, r := range c.want {
				want = append(want, boring.Conflict{Flaw: name, Lo: r[0], Hi: r[1]})
			}
		}
		if list, e := boring.Against(b, s); !slices.Equal(list, want) || e != api.OK {
			t.Errorf("Against a flaw from %d to %d: %v, %d, not %v", c.lo, c.hi, list, e, want)
		}
		for _, p := range []api.Point{at(10, 9), at(9, 10), at(10, 10), at(19, 0)} {
			aside := b
			aside.At = p
			if list, e := boring.Against(aside, s); len(list) > 0 || e != api.OK {
				t.Errorf("Against a flaw beside the boring: %v, %d", list, e)
			}
		}
	}
}

func TestNearest(t *testing.T) {
	points := func(numbers ...int) []api.Boring {
		var list []api.Boring
		for i := 0; i < len(numbers); i += 2 {
			list = append(list, api.Boring{At: at(numbers[i], numbers[i+1])})
		}
		return list
	}
	for _, c := range []struct {
		list []api.Boring
		p    api.Point
		want int
		code api.Errno
	}{
		{nil, at(0, 0), 0, api.ErrNone}, {[]api.Boring{}, at(top+1, 0), 0, api.ErrNone}, {points(5, 5), at(0, 0), 0, api.OK}, {points(5, 5, 0, 1, 1, 0), at(0, 0), 1, api.OK}, {points(3, 4, 5, 0, -5, 0, 0, 5, 4, -3), at(0, 0), 0, api.OK}, {points(9, 9, 4, 3, 0, -5), at(0, 0), 1, api.OK}, {points(5, 5, 2, 2, 2, 2), at(2, 2), 1, api.OK}, {points(1, 7, 5, 5), at(0, 0), 0, api.OK}, {points(8, 0, 5, 5), at(0, 0), 1, api.OK},
		{points(-top, -top, top, top), at(top, top), 1, api.OK}, {points(-top, -top, top, top), at(-top, -top), 0, api.OK}, {points(-top, -top, top, top, top, -top), at(top, -top), 2, api.OK}, {points(-top, top, top, -top), at(0, 0), 0, api.OK}, {points(-top, top, top-1, -top), at(0, 0), 1, api.OK}, {points(top, top, top-1, top), at(-top, -top), 1, api.OK},
		{points(0, 0), at(top+1, 0), 0, api.ErrRange}, {points(0, 0), at(0, top+1), 0, api.ErrRange}, {points(0, 0), at(-top-1, 0), 0, api.ErrRange}, {points(0, 0), at(0, -top-1), 0, api.ErrRange}, {points(0, 0), at(math.MinInt, math.MaxInt), 0, api.ErrRange},
		{points(0, 0, 1, 1, top+1, 0), at(0, 0), 0, api.ErrRange}, {points(0, 0, 1, 1, 0, -top-1), at(0, 0), 0, api.ErrRange}, {points(math.MaxInt, 0, 0, 0), at(0, 0), 0, api.ErrRange}, {points(0, math.MinInt), at(0, 0), 0, api.ErrRange}, {points(5, 5, 0, math.MaxInt, 0, 0), at(0, 0), 0, api.ErrRange},
	} {
		if i, e := boring.Nearest(c.list, c.p); i != c.want || e != c.code {
			t.Errorf("Nearest of %v to %v: %d, %d, not %d, %d", c.list, c.p, i, e, c.want, c.code)
		}
	}
	random := rand.New(rand.NewSource(6))
	for range 3000 {
		var list []api.Boring
		for range 1 + random.Intn(100) {
			list = append(list, api.Boring{At: at(random.Intn(21)-10, random.Intn(21)-10)})
		}
		p := at(random.Intn(31)-15, random.Intn(31)-15)
		i, e := boring.Nearest(list, p)
		for k, b := range list {
			d := math.Hypot(float64(b.At.X-p.X), float64(b.At.Y-p.Y)) - math.Hypot(float64(list[i].At.X-p.X), float64(list[i].At.Y-p.Y))
			if e != api.OK || d < -1e-9 || k < i && d < 1e-9 {
				t.Errorf("Nearest of %v to %v: %d, %d, but %d is nearer", list, p, i, e, k)
			}
		}
	}
}

// TestResultsAreNew changes results, which share no memory with arguments.
func TestResultsAreNew(t *testing.T) {
	b := full()
	n, _ := boring.Normal(b)
	m, _ := boring.Merge(b, b)
	l, _ := boring.Line(b)
	for i := range n.Logs {
		n.Logs[i].State, m.Logs[i].Lo, l.Kids[i].Tokens[1].N = 9, 99, 999
	}
	if !reflect.DeepEqual(b, full()) {
		t.Errorf("a result shares memory with %v", b)
	}
	b = b1()
	if n, _ := boring.Normal(b); !slices.Equal(b.Logs, b1().Logs) || len(n.Logs) != 2 {
		t.Errorf("Normal changes its argument to %v", b)
	}
}
