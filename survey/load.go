package survey

import (
	"cmp"
	"slices"

	"gangsaw/api"
)

// draft is a survey whose lines are read one by one.
type draft struct {
	survey    api.Survey
	pit, open bool // whether these lines, which may stand once, have been read
}

// Load returns the survey of a line with its kids, or the first fault.
func Load(l api.Line) (api.Survey, api.Fault) {
	if len(l.Tokens) != 1 || l.Tokens[0].Kind != api.TokWord || l.Tokens[0].Text != "survey" || !l.Heading {
		return api.Survey{}, bad(api.ErrSyntax, l, 0)
	}
	var d draft
	for _, kid := range l.Kids {
		if fault := d.read(kid); fault.Code != api.OK {
			return api.Survey{}, fault
		}
	}
	if !d.pit {
		return api.Survey{}, bad(api.ErrNone, l, 0)
	}
	sortParts(d.survey)
	if e := Check(d.survey); e != api.OK {
		return api.Survey{}, bad(e, l, 0)
	}
	return d.survey, api.Fault{}
}

// read adds what a kid of the survey's line says.
func (d *draft) read(l api.Line) api.Fault {
	r := reader{line: l}
	s := &d.survey
	switch r.word("pit", "open", "bed", "joint", "flaw") {
	case "pit":
		r.once(&d.pit)
		s.Pit = api.Box{Min: r.vec(), Max: r.vec()}
	case "open":
		r.once(&d.open)
		s.Open = r.sides()
	case "bed":
		s.Beds = append(s.Beds, api.Bed{Name: r.name(), Z: r.number()})
	case "joint":
		s.Joints = append(s.Joints, api.Joint{Name: r.name(), Axis: r.axis(), At: r.number(), Lo: r.number(), Hi: r.number()})
	case "flaw":
		s.Flaws = append(s.Flaws, r.flaw())
		return r.fault
	}
	r.endLeaf()
	return r.fault
}

// sortParts puts what may stand in any order into the order of a valid survey.
func sortParts(s api.Survey) {
	slices.SortStableFunc(s.Beds, func(a, b api.Bed) int {
		return cmp.Or(byZ(a, b), cmp.Compare(a.Name, b.Name))
	})
	slices.SortStableFunc(s.Joints, byJoint)
	slices.SortStableFunc(s.Flaws, byFlaw)
}
