package boring

import (
	"slices"

	"gangsaw/api"
	"gangsaw/parser"
)

// stateWords returns the words of the states that logs may have.
func stateWords() [3]string {
	return [3]string{api.Sound: "sound", api.Flawed: "flawed"}
}

// Load returns the boring of a line and its kids, or the first fault.
func Load(l api.Line) (api.Boring, api.Fault) {
	if fault := shape(l, "boring", "NAME", "at", "NUMBER", "NUMBER"); fault.Code != api.OK {
		return api.Boring{}, fault
	}
	if !l.Heading {
		return api.Boring{}, parser.Bad(api.ErrSyntax, l, 0)
	}
	b := api.Boring{Name: l.Tokens[1].Text, At: api.Point{X: int(l.Tokens[3].N), Y: int(l.Tokens[4].N)}}
	for _, kid := range l.Kids {
		log, fault := loadLog(kid)
		if fault.Code != api.OK {
			return api.Boring{}, fault
		}
		b.Logs = append(b.Logs, log)
	}
	if e := checkFormed(b); e != api.OK {
		return api.Boring{}, parser.Bad(e, l, 0)
	}
	return b, api.Fault{}
}

// Line returns the canonical line of a boring.
func Line(b api.Boring) (api.Line, api.Errno) {
	if e := checkFormed(b); e != api.OK {
		return api.Line{}, e
	}
	l := api.Line{Tokens: slices.Concat(words("boring", b.Name, "at"), numbers(b.At.X, b.At.Y)), Heading: true}
	for _, log := range b.Logs {
		l.Kids = append(l.Kids, api.Line{Tokens: slices.Concat(words(stateWords()[log.State]), numbers(log.Lo, log.Hi))})
	}
	return l, api.OK
}

func loadLog(l api.Line) (api.Log, api.Fault) {
	known := stateWords()
	word := parser.Word(l)
	state := slices.Index(known[:], word)
	if !isState(state) || l.Heading || len(l.Kids) > 0 {
		return api.Log{}, parser.Bad(api.ErrSyntax, l, 0)
	}
	if fault := shape(l, word, "NUMBER", "NUMBER"); fault.Code != api.OK {
		return api.Log{}, fault
	}
	return api.Log{Lo: int(l.Tokens[1].N), Hi: int(l.Tokens[2].N), State: state}, api.Fault{}
}

// shape returns the fault of parser.Shape, or that of the first number that is out of range.
func shape(l api.Line, pattern ...string) api.Fault {
	if fault := parser.Shape(l, pattern); fault.Code != api.OK {
		return fault
	}
	for i, t := range l.Tokens {
		if t.Kind == api.TokNumber && (t.N < -api.MaxCoord || t.N > api.MaxCoord) {
			return parser.Bad(api.ErrRange, l, i)
		}
	}
	return api.Fault{}
}

func words(texts ...string) []api.Token {
	var tokens []api.Token
	for _, text := range texts {
		tokens = append(tokens, api.Token{Kind: api.TokWord, Text: text})
	}
	return tokens
}

func numbers(values ...int) []api.Token {
	var tokens []api.Token
	for _, n := range values {
		tokens = append(tokens, api.Token{Kind: api.TokNumber, N: int64(n)})
	}
	return tokens
}
