package boring

import (
	"slices"

	"gangsaw/api"
	"gangsaw/parser"
)

// The words of the lines of a boring.
const (
	boringWord = "boring"
	atWord     = "at"
	soundWord  = "sound"
	flawedWord = "flawed"
)

// Load returns the boring of a line and its kids, or the first fault.
func Load(l api.Line) (api.Boring, api.Fault) {
	if f := shape(l, boringWord, "NAME", atWord, "NUMBER", "NUMBER"); f.Code != api.OK {
		return api.Boring{}, f
	}
	if !l.Heading {
		return api.Boring{}, parser.Bad(api.ErrSyntax, l, 0)
	}
	b := api.Boring{Name: l.Tokens[1].Text, At: api.Point{X: int(l.Tokens[3].N), Y: int(l.Tokens[4].N)}}
	for _, k := range l.Kids {
		state := stateOf(parser.Word(k))
		if state == api.Unseen || k.Heading || len(k.Kids) > 0 {
			return api.Boring{}, parser.Bad(api.ErrSyntax, k, 0)
		}
		if f := shape(k, "WORD", "NUMBER", "NUMBER"); f.Code != api.OK {
			return api.Boring{}, f
		}
		b.Logs = append(b.Logs, api.Log{Lo: int(k.Tokens[1].N), Hi: int(k.Tokens[2].N), State: state})
	}
	if e := checkFormed(b); e != api.OK {
		return api.Boring{}, parser.Bad(e, l, 0)
	}
	return b, api.Fault{}
}

// Line returns the canonical line of a boring.
func Line(b api.Boring) (api.Line, api.Errno) {
	if e := checkFormed(b); e != api.OK {
		return api.Line{}, e
	}
	out := api.Line{Tokens: []api.Token{word(boringWord), word(b.Name), word(atWord), number(b.At.X), number(b.At.Y)}, Heading: true}
	for _, l := range b.Logs {
		state := soundWord
		if l.State == api.Flawed {
			state = flawedWord
		}
		out.Kids = append(out.Kids, api.Line{Tokens: []api.Token{word(state), number(l.Lo), number(l.Hi)}})
	}
	return out, api.OK
}

// shape returns the fault of the form of a line, or that of its first number that is out of range.
func shape(l api.Line, pattern ...string) api.Fault {
	if f := parser.Shape(l, pattern); f.Code != api.OK {
		return f
	}
	far := func(t api.Token) bool {
		return t.Kind == api.TokNumber && (t.N < -api.MaxCoord || t.N > api.MaxCoord)
	}
	if i := slices.IndexFunc(l.Tokens, far); i >= 0 {
		return parser.Bad(api.ErrRange, l, i)
	}
	return api.Fault{}
}

// stateOf returns the state of a log whose line begins with a word, Unseen if that is none of a log.
func stateOf(first string) int {
	switch first {
	case soundWord:
		return api.Sound
	case flawedWord:
		return api.Flawed
	}
	return api.Unseen
}

func word(s string) api.Token { return api.Token{Kind: api.TokWord, Text: s} }

func number(n int) api.Token { return api.Token{Kind: api.TokNumber, N: int64(n)} }
