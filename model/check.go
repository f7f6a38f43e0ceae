package model

import (
	"slices"
	"strings"

	"gangsaw/api"
	"gangsaw/box"
)

// Check returns OK for valid evidence, or the first error.
func Check(list []api.Evidence) api.Errno {
	if len(list) > api.MaxEvidence {
		return api.ErrTooMany
	}
	if slices.ContainsFunc(list, func(v api.Evidence) bool { return !isLabel(v.Source) }) {
		return api.ErrName
	}
	for _, v := range list {
		if e := box.Check(v.Box); e != api.OK {
			return e
		}
	}
	if slices.ContainsFunc(list, func(v api.Evidence) bool { return v.State != api.Sound && v.State != api.Flawed }) {
		return api.ErrInvalid
	}
	return api.OK
}

// checkCell returns OK for valid evidence and a cell.
func checkCell(list []api.Evidence, cell api.Vec) api.Errno {
	if e := Check(list); e != api.OK {
		return e
	}
	const most = api.MaxCoord
	if !box.Has(api.Box{Min: api.Vec{X: -most, Y: -most, Z: -most}, Max: api.Vec{X: most, Y: most, Z: most}}, cell) {
		return api.ErrRange
	}
	return api.OK
}

// checkBox returns OK for valid evidence, a box and a state that is asked for.
func checkBox(list []api.Evidence, b api.Box, state int) api.Errno {
	if e := Check(list); e != api.OK {
		return e
	}
	if e := box.Check(b); e != api.OK {
		return e
	}
	if !isState(state) {
		return api.ErrInvalid
	}
	return api.OK
}

func isState(state int) bool {
	return state >= api.Unseen && state <= api.Clash
}

// isLabel is lexer.Label, which this package does not import.
func isLabel(s string) bool {
	return len(s) <= api.MaxLabel && s != "" && s[0] != ' ' && s[len(s)-1] != ' ' && !strings.ContainsFunc(s, isStrange)
}

// isStrange tells of what no label has. Bytes that are no part of a rune come as one that is greater than all bytes.
func isStrange(r rune) bool {
	return r < ' ' || r > '~' || r == '"'
}
