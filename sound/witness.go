package sound

import (
	"cmp"
	"slices"

	"gangsaw/api"
	"gangsaw/box"
	"gangsaw/model"
	"gangsaw/survey"
)

// The kinds of witnesses.
const (
	None   = 0 // the box is sound
	Cell   = 1 // a cell that is not known to be sound
	Flaw   = 2 // a flaw overlaps the box
	Bed    = 3 // a bed passes through its inside
	Joint  = 4 // a joint passes through its inside
	Beyond = 5 // the box is not within the pit
)

// Witness says why a box is not sound: the cell and its state, or the name of the flaw, the bed or the joint.
type Witness struct {
	Kind  int
	Name  string
	Cell  api.Vec
	State int
}

// Find returns the first witness that a box is not sound, or one of the kind None.
func Find(s api.Survey, list []api.Evidence, b api.Box) (Witness, api.Errno) {
	if e := check(s, list, b); e != api.OK {
		return Witness{}, e
	}
	if !box.Inside(b, s.Pit) {
		return Witness{Kind: Beyond}, api.OK
	}
	if isSound(s, list, b) {
		return Witness{}, api.OK
	}
	if w := firstCell(list, b); w.Kind == Cell {
		return w, api.OK
	}
	// The errors are about boxes outside the pit. The names are sorted.
	if names, _ := survey.Flaws(s, b); len(names) > 0 {
		return Witness{Kind: Flaw, Name: names[0]}, api.OK
	}
	names, _ := survey.Through(s, b)
	if i := slices.IndexFunc(names, func(name string) bool { return isBed(s, name) }); i >= 0 {
		return Witness{Kind: Bed, Name: names[i]}, api.OK
	}
	return Witness{Kind: Joint, Name: names[0]}, api.OK
}

// Verify reports whether a witness is one for a box.
func Verify(s api.Survey, list []api.Evidence, b api.Box, w Witness) bool {
	if check(s, list, b) != api.OK {
		return false
	}
	if !box.Inside(b, s.Pit) {
		return w == Witness{Kind: Beyond}
	}
	switch w {
	case Witness{}:
		return isSound(s, list, b)
	case Witness{Kind: Cell, Cell: w.Cell, State: w.State}:
		state, _ := model.State(list, w.Cell)
		return box.Has(b, w.Cell) && state == w.State && state != api.Sound
	case Witness{Kind: Flaw, Name: w.Name}:
		names, _ := survey.Flaws(s, b)
		return slices.Contains(names, w.Name)
	case Witness{Kind: Bed, Name: w.Name}, Witness{Kind: Joint, Name: w.Name}:
		names, _ := survey.Through(s, b)
		return slices.Contains(names, w.Name) && isBed(s, w.Name) == (w.Kind == Bed)
	}
	return false
}

// firstCell returns the witness of the least cell that is not known to be sound, or one of the kind None.
func firstCell(list []api.Evidence, b api.Box) Witness {
	var first Witness
	for _, state := range []int{api.Unseen, api.Flawed, api.Clash} {
		cell, e := model.First(list, b, state)
		if e == api.OK && (first.Kind == None || compare(cell, first.Cell) < 0) {
			first = Witness{Kind: Cell, Cell: cell, State: state}
		}
	}
	return first
}

// compare orders cells: by z, then by y, then by x.
func compare(a, b api.Vec) int {
	return cmp.Or(cmp.Compare(a.Z, b.Z), cmp.Compare(a.Y, b.Y), cmp.Compare(a.X, b.X))
}

// isBed tells the names of beds from those of joints: no name of a survey occurs twice.
func isBed(s api.Survey, name string) bool {
	return slices.ContainsFunc(s.Beds, func(b api.Bed) bool { return b.Name == name })
}
