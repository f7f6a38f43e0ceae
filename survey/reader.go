package survey

import (
	"slices"

	"gangsaw/api"
	"gangsaw/lexer"
)

// reader reads the tokens of a line from left to right. Behind its first fault it reads nothing more.
type reader struct {
	line  api.Line
	next  int
	fault api.Fault
}

// bad returns the fault of a code at a token of a line, or at the last one, if that is lacking.
func bad(code api.Errno, l api.Line, token int) api.Fault {
	token = min(token, len(l.Tokens)-1)
	if token < 0 {
		return api.Fault{Code: code, Line: l.At, Col: 1}
	}
	return api.Fault{Code: code, Line: l.At, Col: l.Tokens[token].At}
}

// refuse keeps the fault of a code at a token, unless there is one already.
func (r *reader) refuse(code api.Errno, token int) {
	if r.fault.Code == api.OK {
		r.fault = bad(code, r.line, token)
	}
}

// take returns the next token, which must have a kind and no error.
func (r *reader) take(kind int, errorOf func(t api.Token) api.Errno) api.Token {
	if r.fault.Code != api.OK {
		return api.Token{}
	}
	code := api.ErrSyntax
	if r.more() && r.line.Tokens[r.next].Kind == kind {
		code = errorOf(r.line.Tokens[r.next])
	}
	if code != api.OK {
		r.refuse(code, r.next)
		return api.Token{}
	}
	r.next++
	return r.line.Tokens[r.next-1]
}

func (r *reader) more() bool {
	return r.fault.Code == api.OK && r.next < len(r.line.Tokens)
}

// word reads one of some words.
func (r *reader) word(allowed ...string) string {
	return r.take(api.TokWord, func(t api.Token) api.Errno {
		if !slices.Contains(allowed, t.Text) {
			return api.ErrSyntax
		}
		return api.OK
	}).Text
}

func (r *reader) name() string {
	return r.take(api.TokWord, func(t api.Token) api.Errno {
		if !lexer.Name(t.Text) {
			return api.ErrName
		}
		return api.OK
	}).Text
}

func (r *reader) number() int {
	return int(r.take(api.TokNumber, func(t api.Token) api.Errno {
		if t.N < -api.MaxCoord || t.N > api.MaxCoord {
			return api.ErrRange
		}
		return api.OK
	}).N)
}

func (r *reader) vec() api.Vec {
	return api.Vec{X: r.number(), Y: r.number(), Z: r.number()}
}

func (r *reader) axis() int {
	if r.word(axisX, axisY) == axisY {
		return api.AxisY
	}
	return api.AxisX
}

// sides reads one or more different sides.
func (r *reader) sides() [4]bool {
	var open [4]bool
	words := sideWords()
	mark := func(t api.Token) api.Errno {
		side := slices.Index(words[:], t.Text)
		switch {
		case side < 0:
			return api.ErrSyntax
		case open[side]:
			return api.ErrDuplicate
		}
		open[side] = true
		return api.OK
	}
	r.take(api.TokWord, mark)
	for r.more() {
		r.take(api.TokWord, mark)
	}
	return open
}

// flaw reads the rest of a flaw's line, and its kids.
func (r *reader) flaw() api.Flaw {
	f := api.Flaw{Name: r.name(), Prism: api.Prism{Lo: r.number(), Hi: r.number()}}
	r.end()
	if !r.line.Heading {
		r.refuse(api.ErrSyntax, 0)
	}
	for _, kid := range r.line.Kids {
		if r.fault.Code != api.OK {
			break
		}
		corner := reader{line: kid}
		corner.word("corner")
		f.Prism.Base = append(f.Prism.Base, api.Point{X: corner.number(), Y: corner.number()})
		corner.endLeaf()
		r.fault = corner.fault
	}
	return f
}

// once refuses a line that has been seen before.
func (r *reader) once(seen *bool) {
	if *seen {
		r.refuse(api.ErrDuplicate, 0)
	}
	*seen = true
}

// end refuses superfluous tokens.
func (r *reader) end() {
	if r.more() {
		r.refuse(api.ErrSyntax, r.next)
	}
}

// endLeaf refuses superfluous tokens, and a line that could have kids or has some.
func (r *reader) endLeaf() {
	r.end()
	if r.line.Heading || len(r.line.Kids) > 0 {
		r.refuse(api.ErrSyntax, 0)
	}
}
