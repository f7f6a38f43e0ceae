package prism

import (
	"iter"

	"gangsaw/api"
	"gangsaw/polygon"
)

// edge is an edge of a base, which lies on its left.
type edge struct {
	from, to api.Point
}

// edges visits the edges of a base with their numbers.
func edges(base api.Polygon) iter.Seq2[int, edge] {
	return func(yield func(int, edge) bool) {
		for i, corner := range base {
			if !yield(i, edge{corner, base[(i+1)%len(base)]}) {
				return
			}
		}
	}
}

// convex reports whether a closed way turns to the left at each corner, and once around in all.
func convex(way api.Polygon) bool {
	rounds := 0
	last := edge{way[len(way)-1], way[0]}
	for _, e := range edges(way) {
		if polygon.Orient(last.from, e.from, e.to) != 1 {
			return false
		}
		// A turn is less than half a round and cannot pass over all rising directions, or over all others: each round begins to rise once.
		if e.rises() && !last.rises() {
			rounds++
		}
		last = e
	}
	return rounds == 1
}

func (e edge) rises() bool {
	return e.to.Y > e.from.Y
}

// turns returns the least and the greatest turn from an edge to points: -1 for one on its right, 0 on its line, 1 on its left.
func (e edge) turns(points []api.Point) (least, greatest int) {
	least, greatest = 1, -1
	for _, p := range points {
		turn := polygon.Orient(e.from, e.to, p)
		least, greatest = min(least, turn), max(greatest, turn)
	}
	return least, greatest
}
