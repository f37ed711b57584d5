package parser

import (
	"slices"

	"gangsaw/api"
	"gangsaw/lexer"
)

// colon is the sign that no line but a heading has at its end.
const colon = ":"

// endless is the depth of a list of lines that contains itself, more than any other one has.
const endless = 1 << 30

// place tells where a list lies. One list may stand in a tree very often, and even contain itself; by its place it is looked at only once.
type place struct {
	first *api.Line
	count int
}

// placeOf expects a list that is not empty.
func placeOf(lines []api.Line) place { return place{first: &lines[0], count: len(lines)} }

// Measure returns the totals of a tree.
func Measure(lines []api.Line) Total {
	known := map[place]Total{}
	var measure func(lines []api.Line) Total
	measure = func(lines []api.Line) Total {
		if len(lines) == 0 {
			return Total{}
		}
		p := placeOf(lines)
		if t, ok := known[p]; ok {
			return t
		}
		known[p] = Total{Depth: endless}
		t := Total{Lines: len(lines)}
		for _, l := range lines {
			kids := measure(l.Kids)
			t.Lines += kids.Lines
			t.Tokens += len(l.Tokens) + kids.Tokens
			t.Depth = max(t.Depth, kids.Depth)
		}
		t.Depth++
		known[p] = t
		return t
	}
	return measure(lines)
}

// Same reports whether two trees are equal, apart from numbers of lines and columns.
func Same(a, b []api.Line) bool {
	met := map[[2]place]bool{}
	var same func(a, b []api.Line) bool
	same = func(a, b []api.Line) bool {
		if len(a) == 0 || len(b) == 0 {
			return len(a) == len(b)
		}
		// Two lists that were met are the same so far: a difference would have ended the comparison.
		pair := [2]place{placeOf(a), placeOf(b)}
		if met[pair] {
			return true
		}
		met[pair] = true
		return slices.EqualFunc(a, b, func(x, y api.Line) bool {
			return x.Heading == y.Heading && slices.EqualFunc(x.Tokens, y.Tokens, sameToken) && same(x.Kids, y.Kids)
		})
	}
	return same(a, b)
}

func sameToken(a, b api.Token) bool {
	a.At, b.At = 0, 0
	return a == b
}

// every reports whether all lines of a tree fit. It keeps the lists that are still to be looked at by itself, so that no depth is too great for it.
func every(lines []api.Line, fits func(l api.Line) bool) bool {
	met := map[place]bool{}
	open := [][]api.Line{lines}
	for len(open) > 0 {
		list := open[len(open)-1]
		open = open[:len(open)-1]
		for _, l := range list {
			if !fits(l) {
				return false
			}
			if len(l.Kids) == 0 || met[placeOf(l.Kids)] {
				continue
			}
			met[placeOf(l.Kids)] = true
			open = append(open, l.Kids)
		}
	}
	return true
}

// possible reports whether a line could stand in a source, but for the number of its tokens.
func possible(l api.Line) bool {
	if len(l.Tokens) == 0 || !l.Heading && len(l.Kids) > 0 {
		return false
	}
	last := l.Tokens[len(l.Tokens)-1]
	if !l.Heading && last.Kind == api.TokSign && last.Text == colon {
		return false
	}
	return !slices.ContainsFunc(l.Tokens, func(t api.Token) bool { return !lexer.Valid(t) })
}

// short reports whether a line has no more tokens than a line of a source can have, where the colon of a heading takes the place of one.
func short(l api.Line) bool {
	if l.Heading {
		return len(l.Tokens) < lexer.MaxTokens
	}
	return len(l.Tokens) <= lexer.MaxTokens
}

// clone returns lines that share no memory with the given ones. A list that contains itself has no copy, and gives none.
func clone(lines []api.Line) []api.Line {
	if Measure(lines).Depth > endless {
		return nil
	}
	var list func(lines []api.Line) []api.Line
	list = func(lines []api.Line) []api.Line {
		out := slices.Clone(lines)
		for i, l := range lines {
			out[i].Tokens = slices.Clone(l.Tokens)
			out[i].Kids = list(l.Kids)
		}
		return out
	}
	return list(lines)
}
