package parser

import (
	"gangsaw/api"
	"gangsaw/lexer"
)

// anyKind is no kind of tokens.
const anyKind = -1

// Shape returns the fault of a line that does not have the form of a pattern of words and kinds of tokens.
func Shape(l api.Line, pattern []string) api.Fault {
	forms, rest, open := unfold(pattern)
	match := matcher()
	for i, t := range l.Tokens {
		form := rest
		if i < len(forms) {
			form = forms[i]
		} else if !open {
			return Bad(api.ErrSyntax, l, i)
		}
		if e := match(t, form); e != api.OK {
			return Bad(e, l, i)
		}
	}
	if len(l.Tokens) < len(forms) {
		return Bad(api.ErrSyntax, l, len(l.Tokens))
	}
	return api.Fault{}
}

// unfold returns the forms of the tokens that a line must have, and, if it may have more of them, that of the others.
func unfold(pattern []string) (forms []string, rest string, open bool) {
	forms = append(forms, pattern...)
	last := len(forms) - 1
	if last < 0 {
		return nil, "", false
	}
	// A mark's place tells how many tokens of the last form there must be.
	for least, mark := range "*+" {
		end := len(forms[last]) - 1
		if end > 0 && rune(forms[last][end]) == mark {
			rest = forms[last][:end]
			forms[last] = rest
			return forms[:last+least], rest, true
		}
	}
	return forms, "", false
}

// matcher returns the function that returns the error of a token that has not a form.
func matcher() func(t api.Token, form string) api.Errno {
	kinds := map[string]int{"WORD": api.TokWord, "NAME": api.TokWord, "NUMBER": api.TokNumber, "TEXT": api.TokText, "ANY": anyKind}
	return func(t api.Token, form string) api.Errno {
		kind, known := kinds[form]
		fits := kind == anyKind || t.Kind == kind
		if !known {
			fits = t.Text == form && (t.Kind == api.TokWord || t.Kind == api.TokSign)
		}
		switch {
		case !fits:
			return api.ErrSyntax
		case form == "NAME" && !lexer.Name(t.Text):
			return api.ErrName
		}
		return api.OK
	}
}
