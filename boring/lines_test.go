package boring

import (
	"math"
	"slices"
	"strings"
	"testing"

	"gangsaw/api"
	"gangsaw/parser"
	"gangsaw/printer"
)

const exampleSource = "boring b1 at 5 5:\n  sound 0 10\n  sound 10 20\n  flawed 25 30\n"

// lineFrom returns the first line of a source.
func lineFrom(t *testing.T, source string) api.Line {
	t.Helper()
	lines, f := parser.Parse(source)
	if f.Code != api.OK || len(lines) == 0 {
		t.Fatalf("%q: %v", source, f)
	}
	return lines[0]
}

func copyOfLine(l api.Line) api.Line {
	l.Tokens, l.Kids = slices.Clone(l.Tokens), slices.Clone(l.Kids)
	for i, k := range l.Kids {
		l.Kids[i] = copyOfLine(k)
	}
	return l
}

// alike reports whether two lines are equal, with all numbers.
func alike(a, b api.Line) bool {
	return a.At == b.At && a.Heading == b.Heading && slices.Equal(a.Tokens, b.Tokens) && slices.EqualFunc(a.Kids, b.Kids, alike)
}

// checkFault checks that a line has a fault, and nothing else.
func checkFault(t *testing.T, name string, l api.Line, want api.Fault) {
	t.Helper()
	before := copyOfLine(l)
	if b, f := Load(l); f != want || !isZero(b) {
		t.Errorf("%s: %v, want %v; with %v", name, f, want, b)
	}
	if !alike(l, before) {
		t.Errorf("%s: the line was changed", name)
	}
}

// checkMarked checks the fault at the token of a source that has a ^ in front of it.
func checkMarked(t *testing.T, marked string, code api.Errno) {
	t.Helper()
	front, _, found := strings.Cut(marked, "^")
	if !found {
		t.Fatalf("no mark in %q", marked)
	}
	want := api.Fault{Code: code, Line: 1 + strings.Count(front, "\n"), Col: len(front) - strings.LastIndex(front, "\n")}
	checkFault(t, marked, lineFrom(t, strings.Replace(marked, "^", "", 1)), want)
}

func checkLoads(t *testing.T, l api.Line, want api.Boring) {
	t.Helper()
	before := copyOfLine(l)
	if b, f := Load(l); f != (api.Fault{}) || !same(b, want) {
		t.Errorf("Load gives %v, %v, want %v", b, f, want)
	}
	if !alike(l, before) {
		t.Error("the line was changed")
	}
}

// checkLineOf checks that the canonical line of a formed boring has no places, and is loaded as the boring, also as it is printed.
func checkLineOf(t *testing.T, b api.Boring) {
	t.Helper()
	l, e := Line(b)
	if e != api.OK {
		t.Errorf("Line gives %d", e)
	}
	var placeless func(l api.Line) bool
	placeless = func(l api.Line) bool {
		return l.At == 0 && !slices.ContainsFunc(l.Tokens, func(k api.Token) bool { return k.At != 0 }) &&
			!slices.ContainsFunc(l.Kids, func(k api.Line) bool { return !placeless(k) })
	}
	if !placeless(l) {
		t.Errorf("the canonical line has places: %v", l)
	}
	checkLoads(t, l, b)
	source, e := printer.Print([]api.Line{l})
	if e != api.OK {
		t.Errorf("Print gives %d", e)
	}
	checkLoads(t, lineFrom(t, source), b)
}

func TestLoad(t *testing.T) {
	checkLoads(t, lineFrom(t, exampleSource), example())
	checkLoads(t, lineFrom(t, "boring a at 0 0:"), bore("a", 0, 0))
	checkLoads(t, lineFrom(t, "boring boring at -1000000 999999:\n  flawed -1000000 -999999\n  sound -999999 1000000"), bore("boring", -top, top-1, -top, 1-top, 2, 1-top, top, 1))
	checkLoads(t, lineFrom(t, "# c\n\nboring at at 1 2:  # c\n\n  sound 3 4  # c\n"), bore("at", 1, 2, 3, 4, 1))
	full := "boring a at 0 0:\n" + strings.Repeat("  sound 0 1\n", 64)
	checkMarked(t, "^"+full, api.ErrOverlap)
	checkMarked(t, "^"+full+"  sound 0 1\n", api.ErrTooMany)
}

// faults are sources with the fault at the token behind the mark.
var faults = []struct {
	source string
	code   api.Errno
}{
	// The line of the boring.
	{"^a", api.ErrSyntax},
	{"^5:", api.ErrSyntax},
	{"^Boring b at 0 0:", api.ErrSyntax},
	{"^borings b at 0 0:", api.ErrSyntax},
	{"^\"boring\" b at 0 0:", api.ErrSyntax},
	{"^boring:", api.ErrSyntax},
	{"boring ^b:", api.ErrSyntax},
	{"boring ^5 at 0 0:", api.ErrSyntax},
	{"boring ^\"b\" at 0 0:", api.ErrSyntax},
	{"boring ^B at 0 0:", api.ErrName},
	{"boring ^B", api.ErrName},
	{"boring ^abcdefghijklmnopqrstuvwxy at 0 0:", api.ErrName},
	{"boring b ^0 0:", api.ErrSyntax},
	{"boring b ^in 0 0:", api.ErrSyntax},
	{"boring b ^\"at\" 0 0:", api.ErrSyntax},
	{"boring b ^at:", api.ErrSyntax},
	{"boring b at ^x 0:", api.ErrSyntax},
	{"boring b at ^0:", api.ErrSyntax},
	{"boring b at 0 ^x:", api.ErrSyntax},
	{"boring b at 0 ^\"0\":", api.ErrSyntax},
	{"boring b at 0 0 ^0:", api.ErrSyntax},
	{"boring b at 0 0 ^::", api.ErrSyntax},
	{"boring b at ^1000001 0:", api.ErrRange},
	{"boring b at ^-1000001 1000001:", api.ErrRange},
	{"boring b at 0 ^1000001:", api.ErrRange},
	{"boring b at 0 ^-1000001:", api.ErrRange},
	{"^boring b at 0 0", api.ErrSyntax},
	// The fault of the form comes before the ranges, and these before the heading and the kids.
	{"boring b at 1000001 ^x:", api.ErrSyntax},
	{"boring b at ^1000001:", api.ErrSyntax},
	{"boring b at 1000001 0 ^0:", api.ErrSyntax},
	{"boring ^B at 1000001 0:", api.ErrName},
	{"boring b at ^1000001 0", api.ErrRange},
	{"boring b at 0 ^1000001:\n  x", api.ErrRange},
	{"boring ^B at 0 0:\n  x", api.ErrName},
	// The kids.
	{"boring b at 0 0:\n  ^x", api.ErrSyntax},
	{"boring b at 0 0:\n  ^Sound 0 1", api.ErrSyntax},
	{"boring b at 0 0:\n  ^unseen 0 1", api.ErrSyntax},
	{"boring b at 0 0:\n  ^\"sound\" 0 1", api.ErrSyntax},
	{"boring b at 0 0:\n  ^1 0 1", api.ErrSyntax},
	{"boring b at 0 0:\n  ^boring c at 0 0", api.ErrSyntax},
	{"boring b at 0 0:\n  ^sound 0 1:", api.ErrSyntax},
	{"boring b at 0 0:\n  ^sound 0 1:\n    sound 0 1", api.ErrSyntax},
	{"boring b at 0 0:\n  ^sound", api.ErrSyntax},
	{"boring b at 0 0:\n  ^flawed", api.ErrSyntax},
	{"boring b at 0 0:\n  sound ^0", api.ErrSyntax},
	{"boring b at 0 0:\n  sound ^a 1", api.ErrSyntax},
	{"boring b at 0 0:\n  sound ^\"0\" 1", api.ErrSyntax},
	{"boring b at 0 0:\n  flawed 0 ^a", api.ErrSyntax},
	{"boring b at 0 0:\n  flawed 0 ^=", api.ErrSyntax},
	{"boring b at 0 0:\n  flawed 0 1 ^2", api.ErrSyntax},
	{"boring b at 0 0:\n  sound ^1000001 0", api.ErrRange},
	{"boring b at 0 0:\n  sound ^-1000001 1000001", api.ErrRange},
	{"boring b at 0 0:\n  sound 0 ^1000001", api.ErrRange},
	{"boring b at 0 0:\n  sound 0 ^-1000001", api.ErrRange},
	{"boring b at 0 0:\n  ^sound x:", api.ErrSyntax},
	{"boring b at 0 0:\n  ^sound 1000001 0:", api.ErrSyntax},
	{"boring b at 0 0:\n  sound 1000001 ^x", api.ErrSyntax},
	{"boring b at 0 0:\n  sound 0 1000001 ^2", api.ErrSyntax},
	{"boring b at 0 0:\n  sound 0 ^1000001\n  x", api.ErrRange},
	{"boring b at 0 0:\n  sound 5 1\n  ^x", api.ErrSyntax},
	{"boring b at 0 0:\n  sound 0 1\n  flawed 1 ^x\n  sound 1000001 2", api.ErrSyntax},
	{"boring b at 1000000 0:\n  ^x", api.ErrSyntax},
	{"boring b at 0 0:\n" + strings.Repeat("  sound 0 1\n", 70) + "  sound 0 ^x", api.ErrSyntax},
	// The errors of the formed boring.
	{"^boring b at 1000000 0:", api.ErrRange},
	{"^boring b at 0 1000000:", api.ErrRange},
	{"^boring b at 0 0:\n  sound 1 1", api.ErrInvalid},
	{"^boring b at 0 0:\n  sound 2 1", api.ErrInvalid},
	{"^boring b at 1000000 0:\n  sound 2 1", api.ErrInvalid},
	{"^boring b at 1000000 0:\n  sound 0 5\n  sound 4 6", api.ErrRange},
	{"^boring b at 0 0:\n  sound 0 5\n  sound 4 6", api.ErrOverlap},
	{"^boring b at 0 0:\n  sound 5 6\n  flawed 4 5", api.ErrOverlap},
	{"# c\n^boring b at 0 0:\n  sound 5 6\n  flawed 5 6", api.ErrOverlap},
}

func TestFaults(t *testing.T) {
	for _, c := range faults {
		checkMarked(t, c.source, c.code)
	}
}

func wordAt(s string, at int) api.Token { return api.Token{Kind: api.TokWord, Text: s, At: at} }

func numberAt(n int64, at int) api.Token { return api.Token{Kind: api.TokNumber, N: n, At: at} }

// TestLinesThatNoSourceHas has faults of lines that are made by hand.
func TestLinesThatNoSourceHas(t *testing.T) {
	boring := func(kids ...api.Line) api.Line {
		return api.Line{Tokens: []api.Token{wordAt("boring", 4), wordAt("b", 8), wordAt("at", 9), numberAt(1, 10), numberAt(2, 20)}, Heading: true, At: 6, Kids: kids}
	}
	log := api.Line{Tokens: []api.Token{wordAt("sound", 3), numberAt(0, 11), numberAt(1, 15)}, At: 7}
	deep := log
	deep.Kids = []api.Line{{}}
	flat := boring(log)
	flat.Heading = false
	fault := func(code api.Errno, line, col int) api.Fault { return api.Fault{Code: code, Line: line, Col: col} }
	for _, c := range []struct {
		name string
		l    api.Line
		want api.Fault
	}{
		{"an empty line", api.Line{}, fault(api.ErrSyntax, 0, 1)},
		{"no tokens", api.Line{At: 3, Heading: true}, fault(api.ErrSyntax, 3, 1)},
		{"kids, but no heading", flat, fault(api.ErrSyntax, 6, 4)},
		{"an empty kid", boring(log, api.Line{At: 8}), fault(api.ErrSyntax, 8, 1)},
		{"an empty heading", boring(log, api.Line{At: 8, Heading: true}), fault(api.ErrSyntax, 8, 1)},
		{"a kid that has kids but is no heading", boring(deep), fault(api.ErrSyntax, 7, 3)},
		{"an impossible word", boring(api.Line{At: 8, Tokens: []api.Token{{Kind: 9, Text: "sound", At: 5}, numberAt(0, 6), numberAt(1, 7)}}), fault(api.ErrSyntax, 8, 5)},
		{"a sign", boring(api.Line{At: 8, Tokens: []api.Token{{Kind: api.TokSign, Text: "sound", At: 5}, numberAt(0, 6), numberAt(1, 7)}}), fault(api.ErrSyntax, 8, 5)},
		{"an impossible number", boring(api.Line{At: 8, Tokens: []api.Token{wordAt("sound", 5), numberAt(math.MinInt64, 6), numberAt(math.MaxInt64, 7)}}), fault(api.ErrRange, 8, 6)},
		{"far away", api.Line{Tokens: []api.Token{wordAt("x", math.MinInt)}, At: math.MaxInt}, fault(api.ErrSyntax, math.MaxInt, math.MinInt)},
		{"an overlap", boring(log, log), fault(api.ErrOverlap, 6, 4)},
	} {
		checkFault(t, c.name, c.l, c.want)
	}
	checkLoads(t, boring(log), bore("b", 1, 2, 0, 1, 1))
	// A line that contains itself.
	kids := []api.Line{log}
	kids[0].Kids = kids
	if b, f := Load(boring(kids...)); f != fault(api.ErrSyntax, 7, 3) || !isZero(b) {
		t.Errorf("%v, %v", b, f)
	}
}

func TestLine(t *testing.T) {
	l, e := Line(example())
	if got, f := printer.Print([]api.Line{l}); got != exampleSource || e != api.OK || f != api.OK {
		t.Errorf("%q, %d, %d", got, e, f)
	}
	l, e = Line(bore("a", -1, 0))
	if got, f := printer.Print([]api.Line{l}); got != "boring a at -1 0:\n" || e != api.OK || f != api.OK {
		t.Errorf("%q, %d, %d", got, e, f)
	}
	checkLineOf(t, example())
	checkLineOf(t, many(64))
	checkLineOf(t, bore("a", -top, top-1, -top, top, api.Flawed))
	b := example()
	l, _ = Line(b)
	l.Kids[0].Tokens[1].N = 7
	loaded, _ := Load(l)
	loaded.Logs[0].Lo = 9
	if !same(b, example()) || l.Kids[0].Tokens[1].N != 7 {
		t.Errorf("%v, %v", b, l)
	}
}

// FuzzLoad looks for sources whose lines break Load.
func FuzzLoad(f *testing.F) {
	f.Add(exampleSource)
	for _, c := range faults {
		f.Add(strings.Replace(c.source, "^", "", 1))
	}
	f.Fuzz(func(t *testing.T, source string) {
		lines, _ := parser.Parse(source)
		for _, l := range lines {
			b, f := Load(l)
			if f.Code != api.OK {
				if !isZero(b) || f.Line < 1 || f.Col < 1 {
					t.Errorf("%v, %v", b, f)
				}
				continue
			}
			if !modelFormed(b) || f != (api.Fault{}) {
				t.Errorf("%v, %v", b, f)
			}
			canonical, _ := Line(b)
			if again, f := Load(canonical); f != (api.Fault{}) || !same(again, b) {
				t.Errorf("%v is loaded as %v, %v", b, again, f)
			}
		}
	})
}
