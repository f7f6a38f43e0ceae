package boring

import (
	"slices"
	"sort"

	"gangsaw/api"
	"gangsaw/survey"
)

// Conflict is a range of z in which a boring says something else than a survey: the name of the flaw.
type Conflict struct {
	Flaw   string
	Lo, Hi int
}

// Merge returns the boring that says what two borings at one point say.
func Merge(a, b api.Boring) (api.Boring, api.Errno) {
	if e := checkFormed(a); e != api.OK {
		return api.Boring{}, e
	}
	if e := checkFormed(b); e != api.OK {
		return api.Boring{}, e
	}
	if a.At != b.At {
		return api.Boring{}, api.ErrConflict
	}
	ofA, ofB := finder(a.Logs), finder(b.Logs)
	var logs []api.Log
	cuts := cutsOf(a.Logs, b.Logs)
	for i := 1; i < len(cuts); i++ {
		// Between two cuts neither boring says different things.
		p, q := ofA(cuts[i-1]), ofB(cuts[i-1])
		if isState(p) && isState(q) && p != q {
			return api.Boring{}, api.ErrConflict
		}
		// Unseen is less than the other states.
		if state := max(p, q); isState(state) {
			logs = append(logs, api.Log{Lo: cuts[i-1], Hi: cuts[i], State: state})
		}
	}
	return api.Boring{Name: a.Name, At: a.At, Logs: joined(logs)}, api.OK
}

// Against returns where a boring says that rock is sound in which a survey has a flaw.
func Against(b api.Boring, s api.Survey) ([]Conflict, api.Errno) {
	if e := survey.Check(s); e != api.OK {
		return nil, e
	}
	if e := check(inside(s.Pit, api.ErrOutside), b); e != api.OK {
		return nil, e
	}
	// The error is about surveys that are not valid, and boxes outside their pits.
	names, _ := survey.Flaws(s, column(b.At, s.Pit.Min.Z, s.Pit.Max.Z))
	var list []Conflict
	for _, f := range s.Flaws {
		if !slices.Contains(names, f.Name) {
			continue
		}
		for _, l := range joined(b.Logs) {
			lo, hi := max(l.Lo, f.Prism.Lo), min(l.Hi, f.Prism.Hi)
			if l.State == api.Sound && lo < hi {
				list = append(list, Conflict{f.Name, lo, hi})
			}
		}
	}
	return list, api.OK
}

// joined returns logs in order of which none begins at the end of one with the same state, but which say the same.
func joined(logs []api.Log) []api.Log {
	normal := slices.Clone(logs)
	count := 0
	for _, l := range normal {
		if count > 0 && normal[count-1].Hi == l.Lo && normal[count-1].State == l.State {
			normal[count-1].Hi = l.Hi
			continue
		}
		normal[count] = l
		count++
	}
	return normal[:count]
}

// finder returns the function that returns what logs in order say at a z.
func finder(logs []api.Log) func(z int) int {
	return func(z int) int {
		i := sort.Search(len(logs), func(i int) bool { return logs[i].Hi > z })
		if i < len(logs) && logs[i].Lo <= z {
			return logs[i].State
		}
		return api.Unseen
	}
}

// cutsOf returns the ends of all logs, increasing.
func cutsOf(lists ...[]api.Log) []int {
	var cuts []int
	for _, logs := range lists {
		for _, l := range logs {
			cuts = append(cuts, l.Lo, l.Hi)
		}
	}
	slices.Sort(cuts)
	return slices.Compact(cuts)
}
