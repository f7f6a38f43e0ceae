package model

import (
	"cmp"
	"iter"
	"slices"

	"gangsaw/api"
	"gangsaw/box"
)

// edge is where a piece of evidence begins or ends along x.
type edge struct {
	x    int
	step int // 1 where it begins, -1 where it ends
	of   *api.Evidence
}

// Volume returns how many cells of a box have a state.
func Volume(list []api.Evidence, b api.Box, state int) (int64, api.Errno) {
	if e := checkBox(list, b, state); e != api.OK {
		return 0, e
	}
	total := int64(0)
	for part, found := range parts(list, b) {
		if found == state {
			size := box.Size(part)
			total += int64(size.X) * int64(size.Y) * int64(size.Z)
		}
	}
	return total, api.OK
}

// First returns the least cell of a box that has a state.
func First(list []api.Evidence, b api.Box, state int) (api.Vec, api.Errno) {
	if e := checkBox(list, b, state); e != api.OK {
		return api.Vec{}, e
	}
	for part, found := range parts(list, b) {
		if found == state {
			return part.Min, api.OK
		}
	}
	return api.Vec{}, api.ErrNone
}

// All reports whether all cells of a box have a state.
func All(list []api.Evidence, b api.Box, state int) (bool, api.Errno) {
	if e := checkBox(list, b, state); e != api.OK {
		return false, e
	}
	for _, found := range parts(list, b) {
		if found != state {
			return false, api.OK
		}
	}
	return true, api.OK
}

// parts divides a box by the coordinates of evidence, and visits the parts by z, then by y, then by x, each with the state of all its cells.
func parts(list []api.Evidence, b api.Box) iter.Seq2[api.Box, int] {
	return func(yield func(part api.Box, state int) bool) {
		edges := edgesOf(list, b)
		var layer, row []edge
		zs := cutsOf(edges, b, rangeZ)
		for k := 1; k < len(zs); k++ {
			layer = passing(layer[:0], edges, rangeZ, zs[k-1])
			ys := cutsOf(layer, b, rangeY)
			for j := 1; j < len(ys); j++ {
				row = passing(row[:0], layer, rangeY, ys[j-1])
				state := along(row)
				for x := b.Min.X; x < b.Max.X; {
					s, end := state(x)
					end = min(end, b.Max.X)
					if !yield(api.Box{Min: api.Vec{X: x, Y: ys[j-1], Z: zs[k-1]}, Max: api.Vec{X: end, Y: ys[j], Z: zs[k]}}, s) {
						return
					}
					x = end
				}
			}
		}
	}
}

// edgesOf returns the edges of the evidence about a box, by x.
func edgesOf(list []api.Evidence, b api.Box) []edge {
	var edges []edge
	for _, v := range list {
		if box.Overlap(v.Box, b) {
			edges = append(edges, edge{v.Box.Min.X, 1, &v}, edge{v.Box.Max.X, -1, &v})
		}
	}
	slices.SortFunc(edges, func(p, q edge) int { return cmp.Compare(p.x, q.x) })
	return edges
}

func rangeY(b api.Box) (low, high int) {
	return b.Min.Y, b.Max.Y
}

func rangeZ(b api.Box) (low, high int) {
	return b.Min.Z, b.Max.Z
}

// cutsOf returns the coordinates of edges inside a box on an axis, and its ends, in order and without repetitions.
func cutsOf(edges []edge, b api.Box, axis func(api.Box) (low, high int)) []int {
	low, high := axis(b)
	cuts := []int{low, high}
	for _, e := range edges {
		from, to := axis(e.of.Box)
		cuts = append(cuts, max(low, from), min(high, to))
	}
	slices.Sort(cuts)
	return slices.Compact(cuts)
}

// passing appends the edges of that evidence which has a coordinate on an axis.
func passing(to, edges []edge, axis func(api.Box) (low, high int), at int) []edge {
	for _, e := range edges {
		if low, high := axis(e.of.Box); low <= at && at < high {
			to = append(to, e)
		}
	}
	return to
}

// along returns the function that tells the state of a row at an x, and where it may be another one. The x must increase from call to call.
func along(row []edge) func(x int) (state, end int) {
	var counts [api.Flawed + 1]int
	return func(x int) (int, int) {
		for len(row) > 0 && row[0].x <= x {
			counts[row[0].of.State] += row[0].step
			row = row[1:]
		}
		state := api.Unseen
		for s, count := range counts {
			if count > 0 {
				state = join(state, s)
			}
		}
		if len(row) == 0 {
			return state, api.MaxCoord
		}
		return state, row[0].x
	}
}
