package boring

import (
	"slices"

	"gangsaw/api"
	"gangsaw/box"
	"gangsaw/lexer"
)

// rule has the error of the borings that break it.
type rule struct {
	code   api.Errno
	broken func(b api.Boring) bool
}

// Check returns OK for a boring in a pit, or the first error.
func Check(b api.Boring, pit api.Box) api.Errno {
	if e := box.Check(pit); e != api.OK {
		return e
	}
	return check(inside(pit, api.ErrOutside), b)
}

// CheckAll returns OK for borings in a pit, or the first error.
func CheckAll(list []api.Boring, pit api.Box) api.Errno {
	if len(list) > api.MaxBorings {
		return api.ErrTooMany
	}
	if e := box.Check(pit); e != api.OK {
		return e
	}
	if e := check(inside(pit, api.ErrOutside), list...); e != api.OK {
		return e
	}
	seen := map[string]bool{}
	for _, b := range list {
		if seen[b.Name] {
			return api.ErrDuplicate
		}
		seen[b.Name] = true
	}
	return api.OK
}

// checkFormed returns OK for a boring that is valid in the greatest pit.
func checkFormed(b api.Boring) api.Errno {
	const most = api.MaxCoord
	return check(inside(api.Box{Min: api.Vec{X: -most, Y: -most, Z: -most}, Max: api.Vec{X: most, Y: most, Z: most}}, api.ErrRange), b)
}

// check returns the first error of borings; a rule says where they may be.
func check(place rule, list ...api.Boring) api.Errno {
	for _, r := range []rule{{api.ErrName, misnamed}, {api.ErrTooMany, overfull}, {api.ErrInvalid, invalid}, place, {api.ErrOverlap, misplacesLog}} {
		if slices.ContainsFunc(list, r.broken) {
			return r.code
		}
	}
	return api.OK
}

// inside is the rule that borings lie inside a pit.
func inside(pit api.Box, code api.Errno) rule {
	return rule{code, func(b api.Boring) bool {
		return !box.Has(pit, api.Vec{X: b.At.X, Y: b.At.Y, Z: pit.Min.Z}) || slices.ContainsFunc(b.Logs, func(l api.Log) bool {
			return l.Lo < pit.Min.Z || l.Hi > pit.Max.Z
		})
	}}
}

func misnamed(b api.Boring) bool {
	return !lexer.Name(b.Name)
}

func overfull(b api.Boring) bool {
	return len(b.Logs) > api.MaxLogs
}

func invalid(b api.Boring) bool {
	return invertsLog(b) || slices.ContainsFunc(b.Logs, func(l api.Log) bool { return !isState(l.State) })
}

func isState(state int) bool {
	return state == api.Sound || state == api.Flawed
}

// invertsLog reports whether a log does not end above its beginning.
func invertsLog(b api.Boring) bool {
	return slices.ContainsFunc(b.Logs, func(l api.Log) bool { return l.Lo >= l.Hi })
}

// misplacesLog reports whether a log begins below the end of the one before.
func misplacesLog(b api.Boring) bool {
	for i := 1; i < len(b.Logs); i++ {
		if b.Logs[i].Lo < b.Logs[i-1].Hi {
			return true
		}
	}
	return false
}
