package box

import "gangsaw/api"

// cuts are the coordinates of boxes on each axis, in order and without repetitions.
type cuts [3][]int

// row is what lies, along x, between two neighbouring cuts of y and two of z.
type row struct {
	y, z   int       // its least coordinates
	across int64     // in how many points of y and z
	boxes  []api.Box // those that pass along it, by their least x
}

func cutsOf(boxes []api.Box) cuts {
	var c cuts
	add := func(v api.Vec) {
		for axis, at := range coordinates(v) {
			c[axis] = insert(c[axis], at)
		}
	}
	for _, b := range boxes {
		add(b.Min)
		add(b.Max)
	}
	return c
}

// insert puts a number in its place among sorted ones, unless it is one of them.
func insert(sorted []int, n int) []int {
	at := len(sorted)
	for at > 0 && sorted[at-1] >= n {
		at--
	}
	if at < len(sorted) && sorted[at] == n {
		return sorted
	}
	sorted = append(sorted, n)
	copy(sorted[at+1:], sorted[at:])
	sorted[at] = n
	return sorted
}

// eachRow visits the rows between cuts, by z and then by y, until visit returns false. A row's boxes are only valid during the visit. The cuts have all coordinates of the boxes.
func eachRow(c cuts, boxes []api.Box, visit func(row) bool) {
	byX := sortedByX(c, boxes)
	ys, zs := c[api.AxisY], c[api.AxisZ]
	var layer, line []api.Box
	for k := 1; k < len(zs); k++ {
		z := zs[k-1]
		layer = filter(layer[:0], byX, func(b api.Box) bool { return b.Min.Z <= z && z < b.Max.Z })
		for j := 1; j < len(ys); j++ {
			y := ys[j-1]
			line = filter(line[:0], layer, func(b api.Box) bool { return b.Min.Y <= y && y < b.Max.Y })
			if !visit(row{y, z, int64(ys[j]-y) * int64(zs[k]-z), line}) {
				return
			}
		}
	}
}

func sortedByX(c cuts, boxes []api.Box) []api.Box {
	var sorted []api.Box
	for _, x := range c[api.AxisX] {
		sorted = filter(sorted, boxes, func(b api.Box) bool { return b.Min.X == x })
	}
	return sorted
}

// filter appends those boxes that are wanted.
func filter(to, boxes []api.Box, wanted func(api.Box) bool) []api.Box {
	for _, b := range boxes {
		if wanted(b) {
			to = append(to, b)
		}
	}
	return to
}
