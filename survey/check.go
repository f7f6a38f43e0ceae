package survey

import (
	"cmp"
	"slices"

	"gangsaw/api"
	"gangsaw/box"
	"gangsaw/lexer"
	"gangsaw/polygon"
	"gangsaw/prism"
)

// Check returns OK for a valid survey, or the first error.
func Check(s api.Survey) api.Errno {
	if len(s.Beds) > api.MaxBeds || len(s.Joints) > api.MaxJoints || len(s.Flaws) > api.MaxFlaws {
		return api.ErrTooMany
	}
	if e := box.Check(s.Pit); e != api.OK {
		return e
	}
	names := namesOf(s)
	if slices.ContainsFunc(names, func(name string) bool { return !lexer.Name(name) }) {
		return api.ErrName
	}
	if slices.ContainsFunc(s.Joints, noJoint) || slices.ContainsFunc(s.Flaws, noFlaw) {
		return api.ErrInvalid
	}
	if e := checkBases(s.Flaws); e != api.OK {
		return e
	}
	if beyond(s) {
		return api.ErrOutside
	}
	if !rises(s.Beds, byZ) || !rises(s.Joints, byJoint) || !rises(s.Flaws, byFlaw) || repeats(names) {
		return api.ErrDuplicate
	}
	return api.OK
}

func namesOf(s api.Survey) []string {
	var names []string
	for _, b := range s.Beds {
		names = append(names, b.Name)
	}
	for _, j := range s.Joints {
		names = append(names, j.Name)
	}
	for _, f := range s.Flaws {
		names = append(names, f.Name)
	}
	return names
}

func noJoint(j api.Joint) bool {
	return j.Axis != api.AxisX && j.Axis != api.AxisY || j.Lo >= j.Hi
}

func noFlaw(f api.Flaw) bool {
	return f.Prism.Lo >= f.Prism.Hi
}

func checkBases(flaws []api.Flaw) api.Errno {
	for _, f := range flaws {
		if e := polygon.Check(f.Prism.Base); e != api.OK {
			return e
		}
	}
	for _, f := range flaws {
		// The base of a prism is convex. Its check looks at each corner once, polygon.Convex at all pairs of sides: too long for layers that ask a survey often.
		if prism.Check(api.Prism{Base: f.Prism.Base, Hi: 1}) != api.OK {
			return api.ErrConflict
		}
	}
	return api.OK
}

// beyond reports whether something lies outside the pit.
func beyond(s api.Survey) bool {
	pit := s.Pit
	return slices.ContainsFunc(s.Beds, func(b api.Bed) bool {
		return b.Z < pit.Min.Z || b.Z > pit.Max.Z
	}) || slices.ContainsFunc(s.Joints, func(j api.Joint) bool {
		low, high := ends(pit, j.Axis)
		return j.At < low || j.At > high || j.Lo < pit.Min.Z || j.Hi > pit.Max.Z
	}) || slices.ContainsFunc(s.Flaws, func(f api.Flaw) bool {
		return !box.Inside(hull(f.Prism), pit)
	})
}

// hull is prism.Hull also for a range of z that is out of range.
func hull(p api.Prism) api.Box {
	// The error is about bases that are not valid.
	low, high, _ := polygon.Bounds(p.Base)
	return api.Box{Min: api.Vec{X: low.X, Y: low.Y, Z: p.Lo}, Max: api.Vec{X: high.X, Y: high.Y, Z: p.Hi}}
}

// rises reports whether a list is strictly increasing.
func rises[T any](list []T, compare func(a, b T) int) bool {
	for i := 1; i < len(list); i++ {
		if compare(list[i-1], list[i]) >= 0 {
			return false
		}
	}
	return true
}

func byZ(a, b api.Bed) int {
	return cmp.Compare(a.Z, b.Z)
}

func byJoint(a, b api.Joint) int {
	return cmp.Compare(a.Name, b.Name)
}

func byFlaw(a, b api.Flaw) int {
	return cmp.Compare(a.Name, b.Name)
}

// repeats reports whether a name occurs twice. It sorts the names.
func repeats(names []string) bool {
	slices.Sort(names)
	return !rises(names, cmp.Compare[string])
}
