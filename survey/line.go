package survey

import (
	"slices"

	"gangsaw/api"
)

// The words of the axes.
const (
	axisX = "x"
	axisY = "y"
)

// sideWords returns the words of the sides, by their directions.
func sideWords() [4]string {
	return [4]string{api.PlusX: "east", api.MinusX: "west", api.PlusY: "north", api.MinusY: "south"}
}

// Line returns the canonical line of a survey.
func Line(s api.Survey) (api.Line, api.Errno) {
	if e := Check(s); e != api.OK {
		return api.Line{}, e
	}
	kids := []api.Line{leaf(words("pit"), numbers(s.Pit.Min.X, s.Pit.Min.Y, s.Pit.Min.Z, s.Pit.Max.X, s.Pit.Max.Y, s.Pit.Max.Z))}
	if s.Open != [4]bool{} {
		kids = append(kids, leaf(words("open"), words(openSides(s)...)))
	}
	for _, b := range s.Beds {
		kids = append(kids, leaf(words("bed", b.Name), numbers(b.Z)))
	}
	for _, j := range s.Joints {
		axis := axisX
		if j.Axis == api.AxisY {
			axis = axisY
		}
		kids = append(kids, leaf(words("joint", j.Name, axis), numbers(j.At, j.Lo, j.Hi)))
	}
	for _, f := range s.Flaws {
		kids = append(kids, flawLine(f))
	}
	return api.Line{Tokens: words("survey"), Heading: true, Kids: kids}, api.OK
}

func openSides(s api.Survey) []string {
	var open []string
	for side, word := range sideWords() {
		if s.Open[side] {
			open = append(open, word)
		}
	}
	return open
}

func flawLine(f api.Flaw) api.Line {
	l := leaf(words("flaw", f.Name), numbers(f.Prism.Lo, f.Prism.Hi))
	l.Heading = true
	for _, corner := range f.Prism.Base {
		l.Kids = append(l.Kids, leaf(words("corner"), numbers(corner.X, corner.Y)))
	}
	return l
}

// leaf returns a line without kids.
func leaf(tokens ...[]api.Token) api.Line {
	return api.Line{Tokens: slices.Concat(tokens...)}
}

func words(texts ...string) []api.Token {
	var tokens []api.Token
	for _, text := range texts {
		tokens = append(tokens, api.Token{Kind: api.TokWord, Text: text})
	}
	return tokens
}

func numbers(values ...int) []api.Token {
	var tokens []api.Token
	for _, n := range values {
		tokens = append(tokens, api.Token{Kind: api.TokNumber, N: int64(n)})
	}
	return tokens
}
