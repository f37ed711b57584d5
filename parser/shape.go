package parser

import (
	"gangsaw/api"
	"gangsaw/lexer"
)

// The forms of tokens that patterns name; every other string stands for itself.
const (
	anyForm    = "ANY"
	wordForm   = "WORD"
	nameForm   = "NAME"
	numberForm = "NUMBER"
	textForm   = "TEXT"
)

// The marks that the last string of a pattern may have.
const (
	once = 0
	many = '*'
	some = '+'
)

// Shape returns the fault of a line that does not have the form of a pattern of words and kinds of tokens.
func Shape(l api.Line, pattern []string) api.Fault {
	kinds := map[string]int{wordForm: api.TokWord, nameForm: api.TokWord, numberForm: api.TokNumber, textForm: api.TokText}
	fits := func(t api.Token, form string) bool {
		if kind, ok := kinds[form]; ok {
			return t.Kind == kind
		}
		return form == anyForm || (t.Kind == api.TokWord || t.Kind == api.TokSign) && t.Text == form
	}
	last := len(pattern) - 1
	end, mark := "", rune(once)
	if last >= 0 {
		end, mark = divide(pattern[last])
	}
	for i, t := range l.Tokens {
		form := end
		if i < last {
			form = pattern[i]
		}
		if i > last && mark == once || !fits(t, form) {
			return Bad(api.ErrSyntax, l, i)
		}
		if form == nameForm && !lexer.Name(t.Text) {
			return Bad(api.ErrName, l, i)
		}
	}
	if n := len(l.Tokens); n < last || n == last && mark != many {
		return Bad(api.ErrSyntax, l, n)
	}
	return api.Fault{}
}

// divide returns the form of the last string of a pattern, and its mark.
func divide(s string) (string, rune) {
	for i, c := range s {
		if i > 0 && i == len(s)-1 && (c == many || c == some) {
			return s[:i], c
		}
	}
	return s, once
}
