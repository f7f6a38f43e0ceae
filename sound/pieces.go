package sound

import (
	"slices"

	"gangsaw/api"
	"gangsaw/box"
	"gangsaw/survey"
)

// grid has, for each axis, the coordinates at which a box is divided, its ends among them, in order.
type grid [3][]int

// Pieces returns the sound ones of the parts into which the beds and joints that pass through a box divide it.
func Pieces(s api.Survey, list []api.Evidence, b api.Box) ([]api.Box, api.Errno) {
	if e := check(s, list, b); e != api.OK {
		return nil, e
	}
	if !box.Inside(b, s.Pit) {
		return nil, api.ErrOutside
	}
	var pieces []api.Box
	// There may be very many parts: since they are divided by halves, each one is held only against what concerns it.
	var divide func(around rock, g grid)
	divide = func(around rock, g grid) {
		r := around.within(g.box())
		if len(r.list) == 0 {
			return
		}
		if lower, upper, divided := g.halves(); divided {
			divide(r, lower)
			divide(r, upper)
			return
		}
		if r.isSound(g.box()) {
			pieces = append(pieces, g.box())
		}
	}
	divide(rock{s.Flaws, list}, gridOf(s, b))
	slices.SortFunc(pieces, func(a, b api.Box) int { return compare(a.Min, b.Min) })
	return pieces, api.OK
}

// gridOf returns the grid of the beds and joints that pass through a box inside the pit.
func gridOf(s api.Survey, b api.Box) grid {
	g := grid{{b.Min.X, b.Max.X}, {b.Min.Y, b.Max.Y}, {b.Min.Z, b.Max.Z}}
	// The error is about surveys that are not valid, and boxes outside their pits.
	names, _ := survey.Through(s, b)
	passes := func(name string) bool {
		_, found := slices.BinarySearch(names, name)
		return found
	}
	for _, bed := range s.Beds {
		if passes(bed.Name) {
			g[api.AxisZ] = append(g[api.AxisZ], bed.Z)
		}
	}
	for _, j := range s.Joints {
		if passes(j.Name) {
			g[j.Axis] = append(g[j.Axis], j.At)
		}
	}
	for axis, cuts := range g {
		slices.Sort(cuts)
		g[axis] = slices.Compact(cuts)
	}
	return g
}

// box returns the box that a grid divides.
func (g grid) box() api.Box {
	var low, high [3]int
	for axis, cuts := range g {
		low[axis], high[axis] = cuts[0], cuts[len(cuts)-1]
	}
	return api.Box{Min: api.Vec{X: low[0], Y: low[1], Z: low[2]}, Max: api.Vec{X: high[0], Y: high[1], Z: high[2]}}
}

// halves divides a grid on the axis with the most coordinates, if there is one inside it.
func (g grid) halves() (lower, upper grid, divided bool) {
	longest := api.AxisX
	for axis := range g {
		if len(g[axis]) > len(g[longest]) {
			longest = axis
		}
	}
	cuts := g[longest]
	if len(cuts) == 2 {
		return grid{}, grid{}, false
	}
	middle := len(cuts) / 2
	lower, upper = g, g
	lower[longest], upper[longest] = cuts[:middle+1], cuts[middle:]
	return lower, upper, true
}
