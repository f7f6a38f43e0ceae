package parser

import "gangsaw/api"

// stack has the lines that can still get kids: first one that stands for the whole source, then for each depth the last line of that depth, down to the last line of all.
type stack struct {
	open  [api.MaxIndent + 2]*api.Line
	count int
}

func newStack(all *api.Line) *stack {
	s := &stack{count: 1}
	s.open[0] = all
	return s
}

// add makes a line a kid of the open line that lies one less deep. It reports whether the depth is possible.
func (s *stack) add(l api.Line, depth int) bool {
	most := s.count - 1
	if !s.open[most].Heading {
		most--
	}
	if depth > most {
		return false
	}
	parent := s.open[depth]
	parent.Kids = append(parent.Kids, l)
	// When the kids grow they may move, but only the last one of them is open.
	s.open[depth+1] = &parent.Kids[len(parent.Kids)-1]
	s.count = depth + 2
	return true
}
