package survey

import (
	"cmp"
	"slices"

	"gangsaw/api"
	"gangsaw/lexer"
	"gangsaw/parser"
)

// The words with which the lines of a survey begin.
const (
	surveyWord = "survey"
	pitWord    = "pit"
	openWord   = "open"
	bedWord    = "bed"
	jointWord  = "joint"
	flawWord   = "flaw"
	cornerWord = "corner"
)

// The forms of the tokens behind these words.
const (
	nameForm = iota
	sideForm
	axisForm
	numberForm
)

// sideWords has the words for the sides in the order of their directions, axisWords those for the axes.
var (
	sideWords = [...]string{"east", "west", "north", "south"}
	axisWords = [...]string{"x", "y"}
)

// Load returns the survey of a line with its kids, or the first fault.
func Load(l api.Line) (api.Survey, api.Fault) {
	if len(l.Tokens) != 1 || parser.Word(l) != surveyWord || !l.Heading {
		return api.Survey{}, parser.Bad(api.ErrSyntax, l, 0)
	}
	if f := checkKids(l, pitWord, openWord, bedWord, jointWord, flawWord); f.Code != api.OK {
		return api.Survey{}, f
	}
	if !slices.ContainsFunc(l.Kids, func(k api.Line) bool { return parser.Word(k) == pitWord }) {
		return api.Survey{}, parser.Bad(api.ErrNone, l, 0)
	}
	var s api.Survey
	for _, k := range l.Kids {
		add(&s, k)
	}
	slices.SortStableFunc(s.Beds, func(a, b api.Bed) int { return cmp.Or(byZ(a, b), cmp.Compare(a.Name, b.Name)) })
	slices.SortStableFunc(s.Joints, byJoint)
	slices.SortStableFunc(s.Flaws, byFlaw)
	if e := Check(s); e != api.OK {
		return api.Survey{}, parser.Bad(e, l, 0)
	}
	return s, api.Fault{}
}

// Line returns the canonical line of a survey.
func Line(s api.Survey) (api.Line, api.Errno) {
	if e := Check(s); e != api.OK {
		return api.Line{}, e
	}
	low, high := s.Pit.Min, s.Pit.Max
	kids := []api.Line{lineOf(words(pitWord), low.X, low.Y, low.Z, high.X, high.Y, high.Z)}
	open := words(openWord)
	for side, word := range sideWords {
		if s.Open[side] {
			open = append(open, word)
		}
	}
	if len(open) > 1 {
		kids = append(kids, lineOf(open))
	}
	for _, b := range s.Beds {
		kids = append(kids, lineOf(words(bedWord, b.Name), b.Z))
	}
	for _, j := range s.Joints {
		kids = append(kids, lineOf(words(jointWord, j.Name, axisWords[j.Axis]), j.At, j.Lo, j.Hi))
	}
	for _, f := range s.Flaws {
		flaw := lineOf(words(flawWord, f.Name), f.Prism.Lo, f.Prism.Hi)
		flaw.Heading = true
		for _, c := range f.Prism.Base {
			flaw.Kids = append(flaw.Kids, lineOf(words(cornerWord), c.X, c.Y))
		}
		kids = append(kids, flaw)
	}
	out := lineOf(words(surveyWord))
	out.Heading, out.Kids = true, kids
	return out, api.OK
}

// checkKids returns the first fault of the kids of a line, which begin with one of some words.
func checkKids(l api.Line, allowed ...string) api.Fault {
	met := map[string]bool{}
	for _, k := range l.Kids {
		word := parser.Word(k)
		if !slices.Contains(allowed, word) {
			return parser.Bad(api.ErrSyntax, k, 0)
		}
		if met[word] && (word == pitWord || word == openWord) {
			return parser.Bad(api.ErrDuplicate, k, 0)
		}
		met[word] = true
		if f := checkTokens(k); f.Code != api.OK {
			return f
		}
		if isFlaw := word == flawWord; k.Heading != isFlaw || !isFlaw && len(k.Kids) > 0 {
			return parser.Bad(api.ErrSyntax, k, 0)
		}
		if f := checkKids(k, cornerWord); f.Code != api.OK {
			return f
		}
	}
	return api.Fault{}
}

// checkTokens returns the first fault of the tokens behind the word of a kid.
func checkTokens(k api.Line) api.Fault {
	forms := formsOf(k)
	for i, t := range k.Tokens[1:] {
		if i == len(forms) || !fits(t, forms[i]) {
			return parser.Bad(api.ErrSyntax, k, i+1)
		}
		if e := contentError(t, forms[i], k.Tokens[1:i+1]); e != api.OK {
			return parser.Bad(e, k, i+1)
		}
	}
	if len(k.Tokens) <= len(forms) {
		return parser.Bad(api.ErrSyntax, k, len(k.Tokens))
	}
	return api.Fault{}
}

// formsOf returns the forms of the tokens behind the word of a kid.
func formsOf(k api.Line) []int {
	switch parser.Word(k) {
	case pitWord:
		return slices.Repeat([]int{numberForm}, 6)
	case openWord:
		return slices.Repeat([]int{sideForm}, max(1, len(k.Tokens)-1))
	case bedWord:
		return []int{nameForm, numberForm}
	case jointWord:
		return []int{nameForm, axisForm, numberForm, numberForm, numberForm}
	case flawWord:
		return []int{nameForm, numberForm, numberForm}
	case cornerWord:
		return []int{numberForm, numberForm}
	}
	return nil
}

func fits(t api.Token, form int) bool {
	switch form {
	case nameForm:
		return t.Kind == api.TokWord
	case sideForm:
		_, ok := sideOf(t)
		return ok
	case axisForm:
		_, ok := axisOf(t)
		return ok
	}
	return t.Kind == api.TokNumber
}

// contentError returns what is wrong with a token that has its form, and before which others stand.
func contentError(t api.Token, form int, before []api.Token) api.Errno {
	same := func(other api.Token) bool { return other.Text == t.Text }
	switch {
	case form == nameForm && !lexer.Name(t.Text):
		return api.ErrName
	case form == numberForm && (t.N < -api.MaxCoord || t.N > api.MaxCoord):
		return api.ErrRange
	case form == sideForm && slices.ContainsFunc(before, same):
		return api.ErrDuplicate
	}
	return api.OK
}

func sideOf(t api.Token) (int, bool) {
	for side, word := range sideWords {
		if t.Kind == api.TokWord && t.Text == word {
			return side, true
		}
	}
	return 0, false
}

func axisOf(t api.Token) (int, bool) {
	for axis, word := range axisWords {
		if t.Kind == api.TokWord && t.Text == word {
			return axis, true
		}
	}
	return 0, false
}

// add adds what a kid without a fault says.
func add(s *api.Survey, k api.Line) {
	n := numbers(k)
	switch parser.Word(k) {
	case pitWord:
		s.Pit = api.Box{Min: api.Vec{X: n[0], Y: n[1], Z: n[2]}, Max: api.Vec{X: n[3], Y: n[4], Z: n[5]}}
	case openWord:
		for _, t := range k.Tokens[1:] {
			side, _ := sideOf(t)
			s.Open[side] = true
		}
	case bedWord:
		s.Beds = append(s.Beds, api.Bed{Name: k.Tokens[1].Text, Z: n[0]})
	case jointWord:
		axis, _ := axisOf(k.Tokens[2])
		s.Joints = append(s.Joints, api.Joint{Name: k.Tokens[1].Text, Axis: axis, At: n[0], Lo: n[1], Hi: n[2]})
	case flawWord:
		var base api.Polygon
		for _, c := range k.Kids {
			at := numbers(c)
			base = append(base, api.Point{X: at[0], Y: at[1]})
		}
		s.Flaws = append(s.Flaws, api.Flaw{Name: k.Tokens[1].Text, Prism: api.Prism{Base: base, Lo: n[0], Hi: n[1]}})
	}
}

// numbers returns the numbers of a line.
func numbers(l api.Line) []int {
	var out []int
	for _, t := range l.Tokens {
		if t.Kind == api.TokNumber {
			out = append(out, int(t.N))
		}
	}
	return out
}

func words(list ...string) []string { return list }

// lineOf returns a line of words, and of numbers behind them.
func lineOf(front []string, behind ...int) api.Line {
	var l api.Line
	for _, w := range front {
		l.Tokens = append(l.Tokens, api.Token{Kind: api.TokWord, Text: w})
	}
	for _, n := range behind {
		l.Tokens = append(l.Tokens, api.Token{Kind: api.TokNumber, N: int64(n)})
	}
	return l
}
