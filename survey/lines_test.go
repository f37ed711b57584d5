package survey

import (
	"math"
	"slices"
	"strings"
	"testing"

	"gangsaw/api"
	"gangsaw/lexer"
	"gangsaw/parser"
	"gangsaw/printer"
)

// exampleKids are the kids of the line of a survey with all kinds of parts.
var exampleKids = []string{
	"  pit 0 0 0 100 100 100",
	"  open east south",
	"  bed b 50",
	"  joint j x 30 0 60",
	"  flaw f 10 20:\n    corner 0 0\n    corner 10 0\n    corner 0 10",
}

// exampleAll is this survey.
func exampleAll() api.Survey {
	s := example()
	s.Open = [4]bool{true, false, false, true}
	s.Flaws = []api.Flaw{flaw("f", 10, 20, 0, 0, 10, 0, 0, 10)}
	return s
}

func sourceOf(kids ...string) string { return "survey:\n" + strings.Join(kids, "\n") + "\n" }

// lineFrom returns the first line of a source.
func lineFrom(t *testing.T, source string) api.Line {
	t.Helper()
	lines, f := parser.Parse(source)
	if f.Code != api.OK || len(lines) == 0 {
		t.Fatalf("%q: %v", source, f)
	}
	return lines[0]
}

func isZero(s api.Survey) bool {
	return s.Pit == api.Box{} && s.Open == [4]bool{} && s.Beds == nil && s.Joints == nil && s.Flaws == nil
}

func copyOfLine(l api.Line) api.Line {
	l.Tokens, l.Kids = slices.Clone(l.Tokens), slices.Clone(l.Kids)
	for i, k := range l.Kids {
		l.Kids[i] = copyOfLine(k)
	}
	return l
}

// alike reports whether two lines are equal, with all numbers.
func alike(a, b api.Line) bool {
	return a.At == b.At && a.Heading == b.Heading && slices.Equal(a.Tokens, b.Tokens) && slices.EqualFunc(a.Kids, b.Kids, alike)
}

// checkFault checks that a line has a fault, and nothing else.
func checkFault(t *testing.T, name string, l api.Line, want api.Fault) {
	t.Helper()
	before := copyOfLine(l)
	if s, f := Load(l); f != want || !isZero(s) {
		t.Errorf("%s: %v, want %v; with %v", name, f, want, s)
	}
	if !alike(l, before) {
		t.Errorf("%s: the line was changed", name)
	}
}

// checkMarked checks the fault at the token of a source that has a ^ in front of it.
func checkMarked(t *testing.T, marked string, code api.Errno) {
	t.Helper()
	front, _, found := strings.Cut(marked, "^")
	if !found {
		t.Fatalf("no mark in %q", marked)
	}
	want := api.Fault{Code: code, Line: 1 + strings.Count(front, "\n"), Col: len(front) - strings.LastIndex(front, "\n")}
	checkFault(t, marked, lineFrom(t, strings.Replace(marked, "^", "", 1)), want)
}

func checkLoads(t *testing.T, l api.Line, want api.Survey) {
	t.Helper()
	before := copyOfLine(l)
	if s, f := Load(l); f != (api.Fault{}) || !same(s, want) {
		t.Errorf("Load gives %v, %v, want %v", s, f, want)
	}
	if !alike(l, before) {
		t.Error("the line was changed")
	}
}

func TestLoadExamples(t *testing.T) {
	checkLoads(t, lineFrom(t, sourceOf(exampleKids...)), exampleAll())
	checkLoads(t, lineFrom(t, sourceOf(exampleKids[0], exampleKids[2], exampleKids[3])), example())
	checkMarked(t, sourceOf(exampleKids[0], "  joint j ^z 30 0 60"), api.ErrSyntax)
	checkMarked(t, "^"+sourceOf(exampleKids[0], "  joint j x 30 0 600"), api.ErrOutside)
}

// TestOrderOfKids loads all orders of the kids.
func TestOrderOfKids(t *testing.T) {
	var try func(front, rest []string)
	try = func(front, rest []string) {
		if len(rest) == 0 {
			checkLoads(t, lineFrom(t, sourceOf(front...)), exampleAll())
		}
		for i, k := range rest {
			try(append(slices.Clone(front), k), slices.Delete(slices.Clone(rest), i, i+1))
		}
	}
	try(nil, exampleKids)
}

func TestLoadSorts(t *testing.T) {
	s := exampleAll()
	s.Open = [4]bool{true, true, true, true}
	s.Beds = []api.Bed{bed("z", 0), bed("b", 50), bed("a", 100)}
	s.Joints = []api.Joint{joint("i", api.AxisY, 100, 99, 100), joint("j", api.AxisX, 30, 0, 60), joint("k", api.AxisY, 0, 0, 1)}
	s.Flaws = []api.Flaw{flaw("e", 0, 1, 100, 0, 100, 100, 0, 100), flaw("f", 10, 20, 0, 0, 10, 0, 0, 10), flaw("g", 99, 100, 5, 5, 6, 5, 6, 6, 5, 6)}
	checkLoads(t, lineFrom(t, sourceOf(
		"  flaw g 99 100:\n    corner 5 5\n    corner 6 5\n    corner 6 6\n    corner 5 6",
		"  bed a 100", "  joint k y 0 0 1", "  joint i y 100 99 100", "  bed z 0", exampleKids[4], "  open south west north east",
		exampleKids[2], exampleKids[3], exampleKids[0], "  flaw e 0 1:\n    corner 100 0\n    corner 100 100\n    corner 0 100",
	)), s)
}

func TestMissingKids(t *testing.T) {
	checkMarked(t, "^"+sourceOf(exampleKids[1:]...), api.ErrNone)
	checkMarked(t, "^survey:", api.ErrNone)
	for i := 1; i < len(exampleKids); i++ {
		s := exampleAll()
		switch i {
		case 1:
			s.Open = [4]bool{}
		case 2:
			s.Beds = nil
		case 3:
			s.Joints = nil
		case 4:
			s.Flaws = nil
		}
		checkLoads(t, lineFrom(t, sourceOf(slices.Delete(slices.Clone(exampleKids), i, i+1)...)), s)
	}
}

// faults are kids behind a pit from 0 to 100, with the fault at the token behind the mark. A mark at the begin is for the line of the survey.
var faults = []struct {
	kids string
	code api.Errno
}{
	{"  ^pit 0 0 0 1 1 1", api.ErrDuplicate},
	{"  ^pit", api.ErrDuplicate},
	{"  ^pit x:", api.ErrDuplicate},
	{"  open east\n  ^open west", api.ErrDuplicate},
	{"  open east\n  ^open", api.ErrDuplicate},
	{"  open east\n  ^open east", api.ErrDuplicate},
	{"  ^corner 0 0", api.ErrSyntax},
	{"  ^survey 0 0", api.ErrSyntax},
	{"  ^Bed b 50", api.ErrSyntax},
	{"  ^beds b 50", api.ErrSyntax},
	{"  ^\"bed\" b 50", api.ErrSyntax},
	{"  ^5 b 50", api.ErrSyntax},
	{"  ^= b 50", api.ErrSyntax},
	{"  ^x", api.ErrSyntax},
	{"  ^x:", api.ErrSyntax},
	// open
	{"  ^open", api.ErrSyntax},
	{"  ^open:", api.ErrSyntax},
	{"  open ^up", api.ErrSyntax},
	{"  open ^East", api.ErrSyntax},
	{"  open ^\"east\"", api.ErrSyntax},
	{"  open ^0", api.ErrSyntax},
	{"  open east ^x", api.ErrSyntax},
	{"  open east ^, west", api.ErrSyntax},
	{"  open east ^east", api.ErrDuplicate},
	{"  open east west north south ^north", api.ErrDuplicate},
	{"  open east ^east up", api.ErrDuplicate},
	{"  open east ^up east", api.ErrSyntax},
	{"  ^open east:", api.ErrSyntax},
	{"  open east ^east:", api.ErrDuplicate},
	// bed
	{"  ^bed", api.ErrSyntax},
	{"  bed ^b", api.ErrSyntax},
	{"  bed ^5", api.ErrSyntax},
	{"  bed ^5 b", api.ErrSyntax},
	{"  bed ^\"b\" 5", api.ErrSyntax},
	{"  bed ^= 5", api.ErrSyntax},
	{"  bed ^B 5", api.ErrName},
	{"  bed ^b_C 5", api.ErrName},
	{"  bed ^abcdefghijklmnopqrstuvwxy 5", api.ErrName},
	{"  bed b ^c", api.ErrSyntax},
	{"  bed b ^\"5\"", api.ErrSyntax},
	{"  bed b ^+", api.ErrSyntax},
	{"  bed b ^1000001", api.ErrRange},
	{"  bed b ^-1000001", api.ErrRange},
	{"  bed b ^1000000000000000", api.ErrRange},
	{"  bed b 5 ^6", api.ErrSyntax},
	{"  bed b 5 ^c", api.ErrSyntax},
	{"  ^bed b 5:", api.ErrSyntax},
	{"  ^bed b 5:\n    corner 0 0", api.ErrSyntax},
	{"  ^bed b 5:\n    x", api.ErrSyntax},
	// joint
	{"  ^joint", api.ErrSyntax},
	{"  joint ^j", api.ErrSyntax},
	{"  joint ^7 x 0 0 1", api.ErrSyntax},
	{"  joint ^J x 0 0 1", api.ErrName},
	{"  joint j ^x", api.ErrSyntax},
	{"  joint j ^X 0 0 1", api.ErrSyntax},
	{"  joint j ^east 0 0 1", api.ErrSyntax},
	{"  joint j ^\"x\" 0 0 1", api.ErrSyntax},
	{"  joint j ^0 0 0 1", api.ErrSyntax},
	{"  joint j y ^5", api.ErrSyntax},
	{"  joint j y ^x 5 6", api.ErrSyntax},
	{"  joint j y ^1000001 5 6", api.ErrRange},
	{"  joint j y 4 ^5", api.ErrSyntax},
	{"  joint j y 4 ^x 6", api.ErrSyntax},
	{"  joint j y 4 ^-1000001 6", api.ErrRange},
	{"  joint j y 4 5 ^x", api.ErrSyntax},
	{"  joint j y 4 5 ^1000001", api.ErrRange},
	{"  joint j y 4 5 6 ^7", api.ErrSyntax},
	{"  ^joint j y 4 5 6:", api.ErrSyntax},
	// flaw
	{"  ^flaw", api.ErrSyntax},
	{"  ^flaw:", api.ErrSyntax},
	{"  flaw ^f", api.ErrSyntax},
	{"  flaw ^f:", api.ErrSyntax},
	{"  flaw ^1 2 3:", api.ErrSyntax},
	{"  flaw ^F 2 3:", api.ErrName},
	{"  flaw f ^2:", api.ErrSyntax},
	{"  flaw f ^x 3:", api.ErrSyntax},
	{"  flaw f ^1000001 3:", api.ErrRange},
	{"  flaw f 2 ^x:", api.ErrSyntax},
	{"  flaw f 2 ^-1000001:", api.ErrRange},
	{"  flaw f 2 3 ^4:", api.ErrSyntax},
	{"  ^flaw f 2 3", api.ErrSyntax},
	{"  flaw f 2 3:\n    ^x", api.ErrSyntax},
	{"  flaw f 2 3:\n    ^bed b 5", api.ErrSyntax},
	{"  flaw f 2 3:\n    ^pit 0 0 0 1 1 1", api.ErrSyntax},
	{"  flaw f 2 3:\n    ^\"corner\" 0 0", api.ErrSyntax},
	{"  flaw f 2 3:\n    ^corner", api.ErrSyntax},
	{"  flaw f 2 3:\n    corner ^0", api.ErrSyntax},
	{"  flaw f 2 3:\n    corner ^x 0", api.ErrSyntax},
	{"  flaw f 2 3:\n    corner ^1000001 x", api.ErrRange},
	{"  flaw f 2 3:\n    corner 0 ^x", api.ErrSyntax},
	{"  flaw f 2 3:\n    corner 0 ^-1000001", api.ErrRange},
	{"  flaw f 2 3:\n    corner 0 0 ^0", api.ErrSyntax},
	{"  flaw f 2 3:\n    ^corner 0 0:", api.ErrSyntax},
	{"  flaw f 2 3:\n    ^corner 0 0:\n      corner 0 0", api.ErrSyntax},
	{"  flaw f 2 3:\n    corner 0 0\n    corner 1 0\n    corner 0 1\n    ^coner 0 0", api.ErrSyntax},
	// Of several faults the first one counts: line by line, and in a line from left to right.
	{"  bed ^B", api.ErrName},
	{"  bed ^B c", api.ErrName},
	{"  bed ^B 1000001 5", api.ErrName},
	{"  bed b ^1000001 5", api.ErrRange},
	{"  bed b ^x 5", api.ErrSyntax},
	{"  bed b ^1000001:", api.ErrRange},
	{"  joint ^J z", api.ErrName},
	{"  joint j ^z 1000001", api.ErrSyntax},
	{"  joint j x ^1000001", api.ErrRange},
	{"  joint j x ^1000001 x 0", api.ErrRange},
	{"  joint j x 0 ^x 1000001", api.ErrSyntax},
	{"  flaw f ^-1000001", api.ErrRange},
	{"  flaw ^F x", api.ErrName},
	{"  bed b ^x\n  joint J", api.ErrSyntax},
	{"  bed ^B 5\n  pit 1", api.ErrName},
	{"  ^pit 1\n  bed B", api.ErrDuplicate},
	{"  flaw f 2 3:\n    corner ^x 0\n  bed B", api.ErrSyntax},
	{"  bed ^B 1\n  flaw f 2 3:\n    corner x 0", api.ErrName},
	{"  flaw f 2 3:\n    corner 0 0\n  bed ^B", api.ErrName},
	{"  flaw f 2 ^x:\n    x", api.ErrSyntax},
	{"  flaw f 3 2:\n    ^x", api.ErrSyntax},
	{"  bed a 5000\n  bed b ^x", api.ErrSyntax},
	// The errors of Check.
	{"^  bed a 101", api.ErrOutside},
	{"^  bed a 1000000", api.ErrOutside},
	{"^  bed a -1000000", api.ErrOutside},
	{"^  bed a 5\n  bed b 5", api.ErrDuplicate},
	{"^  bed a 5\n  bed a 6", api.ErrDuplicate},
	{"^  bed a 5\n  joint a x 0 0 1", api.ErrDuplicate},
	{"^  joint j y 5 5 5", api.ErrInvalid},
	{"^  joint j y 101 5 6", api.ErrOutside},
	{"^  joint j x 0 0 1\n  joint j y 0 0 1", api.ErrDuplicate},
	{"^  flaw f 2 3:", api.ErrInvalid},
	{"^  flaw f 3 2:\n    corner 0 0\n    corner 1 0\n    corner 0 1", api.ErrInvalid},
	{"^  flaw f 2 3:\n    corner 0 0\n    corner 1 0", api.ErrInvalid},
	{"^  flaw f 2 3:\n    corner 0 0\n    corner 1 0\n    corner 1 0", api.ErrDuplicate},
	{"^  flaw f 2 3:\n    corner 0 0\n    corner 0 1\n    corner 1 0", api.ErrConflict},
	{"^  flaw f 2 3:\n    corner 0 0\n    corner 101 0\n    corner 0 1", api.ErrOutside},
	{"^  flaw f 2 3:\n" + strings.Repeat("    corner 0 0\n", 65), api.ErrTooMany},
	{"^" + strings.Repeat("  joint j x 0 0 1\n", 129), api.ErrTooMany},
	// The base of the first flaw that has an error: flaws are sorted by name, and equal ones keep their order.
	{"^  flaw g 2 3:\n    corner 0 0\n    corner 0 0\n    corner 1 1\n  flaw f 2 3:\n    corner 0 0\n    corner 1 0", api.ErrInvalid},
	{"^  flaw f 2 3:\n    corner 0 0\n    corner 0 0\n    corner 1 1\n  flaw f 2 3:\n    corner 0 0\n    corner 1 0", api.ErrDuplicate},
	{"^  flaw f 2 3:\n    corner 0 0\n    corner 1 0\n  flaw f 2 3:\n    corner 0 0\n    corner 0 0\n    corner 1 1", api.ErrInvalid},
}

func TestFaults(t *testing.T) {
	for _, c := range faults {
		source := sourceOf(exampleKids[0], c.kids)
		if rest, found := strings.CutPrefix(c.kids, "^"); found {
			source = "^" + sourceOf(exampleKids[0], rest)
		}
		checkMarked(t, source, c.code)
	}
	// A fault of a kid comes before a pit that is lacking, and that one before the errors of Check.
	checkMarked(t, sourceOf("  bed ^B 5"), api.ErrName)
	checkMarked(t, "^"+sourceOf("  bed b 5", "  bed b 5"), api.ErrNone)
	for _, c := range []struct {
		kids string
		code api.Errno
	}{
		{"  pit 0 0 0 1 ^1", api.ErrSyntax},
		{"  ^pit", api.ErrSyntax},
		{"  pit 0 0 0 1 1 1 ^1", api.ErrSyntax},
		{"  pit ^a 0 0 1 1 1", api.ErrSyntax},
		{"  pit 0 ^a 0 1 1 1", api.ErrSyntax},
		{"  pit 0 0 ^\"0\" 1 1 1", api.ErrSyntax},
		{"  pit 0 0 0 ^( 1 1", api.ErrSyntax},
		{"  pit 0 0 0 1 ^a 1", api.ErrSyntax},
		{"  pit 0 0 0 1 1 ^a", api.ErrSyntax},
		{"  pit ^-1000001 0 0 1 1 1", api.ErrRange},
		{"  pit 0 0 0 1 1 ^1000001", api.ErrRange},
		{"  pit 0 0 0 ^1000001 a 1", api.ErrRange},
		{"  pit 0 0 0 ^1000001", api.ErrRange},
		{"  ^pit 0 0 0 1 1 1:", api.ErrSyntax},
		{"  ^pit 0 0 0 1 1 1:\n    corner 0 0", api.ErrSyntax},
		{"^  pit 0 0 0 1 0 1", api.ErrInvalid},
		{"^  pit 5 0 0 4 1 1", api.ErrInvalid},
	} {
		source := sourceOf(c.kids)
		if rest, found := strings.CutPrefix(c.kids, "^"); found {
			source = "^" + sourceOf(rest)
		}
		checkMarked(t, source, c.code)
	}
	checkLoads(t, lineFrom(t, sourceOf("  pit -1000000 -1000000 -1000000 1000000 1000000 1000000")), api.Survey{Pit: cube(-top, top)})
}

func TestHeadings(t *testing.T) {
	pit := exampleKids[0] + "\n"
	for _, source := range []string{"^survey", "^survey a:\n" + pit, "^Survey:\n" + pit, "^\"survey\":\n" + pit, "^5:\n" + pit, "^pit:\n" + pit, "^survey survey:\n" + pit, "^survey ::\n" + pit, "^survey 1", "^a b c:\n  x"} {
		checkMarked(t, source, api.ErrSyntax)
	}
	// The kids do not matter then.
	checkMarked(t, "^survey x:\n  bed B\n", api.ErrSyntax)
}

func tok(kind int, text string, n int64, at int) api.Token {
	return api.Token{Kind: kind, Text: text, N: n, At: at}
}

// TestLinesThatNoSourceHas has faults of lines that are made by hand.
func TestLinesThatNoSourceHas(t *testing.T) {
	word := func(s string, at int) api.Token { return tok(api.TokWord, s, 0, at) }
	number := func(n int64, at int) api.Token { return tok(api.TokNumber, "", n, at) }
	pit := lineFrom(t, sourceOf(exampleKids...)).Kids[0]
	corner := api.Line{Tokens: []api.Token{word("corner", 5), number(0, 9), number(0, 11)}, At: 8}
	withKids := func(l api.Line, kids ...api.Line) api.Line { l.Kids = kids; return l }
	survey := func(kids ...api.Line) api.Line {
		return api.Line{Tokens: []api.Token{word("survey", 4)}, Heading: true, At: 6, Kids: kids}
	}
	flaw := api.Line{Tokens: []api.Token{word("flaw", 3), word("f", 5), number(1, 6), number(2, 7)}, At: 7, Heading: true}
	flat := flaw
	flat.Heading = false
	fault := func(code api.Errno, line, col int) api.Fault { return api.Fault{Code: code, Line: line, Col: col} }
	for _, c := range []struct {
		name string
		l    api.Line
		want api.Fault
	}{
		{"an empty line", api.Line{}, fault(api.ErrSyntax, 0, 1)},
		{"no tokens", api.Line{Heading: true, At: 9, Kids: []api.Line{pit}}, fault(api.ErrSyntax, 9, 1)},
		{"no heading", api.Line{Tokens: []api.Token{word("survey", 4)}, At: 9, Kids: []api.Line{pit}}, fault(api.ErrSyntax, 9, 4)},
		{"survey as a sign", api.Line{Tokens: []api.Token{tok(api.TokSign, "survey", 0, 2)}, Heading: true, At: 3, Kids: []api.Line{pit}}, fault(api.ErrSyntax, 3, 2)},
		{"an impossible kind", api.Line{Tokens: []api.Token{tok(7, "survey", 0, 2)}, Heading: true, At: 3, Kids: []api.Line{pit}}, fault(api.ErrSyntax, 3, 2)},
		{"far away", api.Line{Tokens: []api.Token{word("x", math.MinInt)}, At: math.MaxInt}, fault(api.ErrSyntax, math.MaxInt, math.MinInt)},
		{"a kid without tokens", survey(pit, api.Line{At: 7}), fault(api.ErrSyntax, 7, 1)},
		{"a heading without tokens", survey(pit, api.Line{At: 7, Heading: true}), fault(api.ErrSyntax, 7, 1)},
		{"an impossible first token", survey(pit, api.Line{At: 7, Tokens: []api.Token{tok(0, "bed", 0, 3)}}), fault(api.ErrSyntax, 7, 3)},
		{"an impossible number", survey(pit, api.Line{At: 7, Tokens: []api.Token{word("bed", 3), word("b", 4), number(math.MinInt64, 5)}}), fault(api.ErrRange, 7, 5)},
		{"an impossible token", survey(pit, api.Line{At: 7, Tokens: []api.Token{word("bed", 3), word("b", 4), tok(-1, "", 5, 5)}}), fault(api.ErrSyntax, 7, 5)},
		{"an empty name", survey(pit, api.Line{At: 7, Tokens: []api.Token{word("bed", 3), word("", 4)}}), fault(api.ErrName, 7, 4)},
		{"an empty word for a side", survey(pit, api.Line{At: 7, Tokens: []api.Token{word("open", 3), word("", 4)}}), fault(api.ErrSyntax, 7, 4)},
		{"a pit that has kids but is no heading", survey(withKids(pit, corner)), fault(api.ErrSyntax, 2, 3)},
		{"a bed that has kids but is no heading", survey(pit, api.Line{At: 7, Tokens: []api.Token{word("bed", 3), word("b", 4), number(5, 5)}, Kids: []api.Line{{}}}), fault(api.ErrSyntax, 7, 3)},
		{"a flaw that has kids but is no heading", survey(pit, withKids(flat, corner)), fault(api.ErrSyntax, 7, 3)},
		{"a flaw that is no heading, with a fault behind it", survey(pit, withKids(flat, api.Line{}), api.Line{}), fault(api.ErrSyntax, 7, 3)},
		{"a corner that has kids but is no heading", survey(pit, withKids(flaw, withKids(corner, corner))), fault(api.ErrSyntax, 8, 5)},
		{"a corner without tokens", survey(pit, withKids(flaw, api.Line{At: 9})), fault(api.ErrSyntax, 9, 1)},
		{"a flaw in a flaw", survey(pit, withKids(flaw, flaw)), fault(api.ErrSyntax, 7, 3)},
		{"a kid that lacks tokens", survey(api.Line{At: 9, Tokens: []api.Token{word("pit", 44), number(1, 33)}}), fault(api.ErrSyntax, 9, 33)},
		{"no pit", survey(), fault(api.ErrNone, 6, 4)},
		{"an error of Check", survey(pit, flaw), fault(api.ErrInvalid, 6, 4)},
	} {
		checkFault(t, c.name, c.l, c.want)
	}
	// A line that contains itself.
	kids := []api.Line{flaw}
	kids[0].Kids = kids
	if s, f := Load(survey(kids...)); f != fault(api.ErrSyntax, 7, 3) || !isZero(s) {
		t.Errorf("%v, %v", s, f)
	}
}

// withTokens returns a line with other tokens at the kid, or the kid of a kid, that has a number.
func withTokens(l api.Line, at int, tokens []api.Token) api.Line {
	l = copyOfLine(l)
	if l.At == at {
		l.Tokens = tokens
	}
	for i, k := range l.Kids {
		l.Kids[i] = withTokens(k, at, tokens)
	}
	return l
}

// TestTokens puts every kind of token in the place of every token of every line, and takes away and adds tokens.
func TestTokens(t *testing.T) {
	forms := map[string]string{"pit": "######", "open": "ss", "bed": "n#", "joint": "na###", "flaw": "n##", "corner": "##"}
	whole := lineFrom(t, sourceOf(exampleKids...))
	lines := slices.Concat(whole.Kids, whole.Kids[4].Kids)
	for _, l := range lines {
		form := forms[l.Tokens[0].Text]
		// check puts tokens at the place of the line; the code is at one of them.
		check := func(tokens []api.Token, code api.Errno, token int) {
			t.Helper()
			changed := withTokens(whole, l.At, tokens)
			if code != api.OK {
				checkFault(t, "other tokens", changed, api.Fault{Code: code, Line: l.At, Col: tokens[token].At})
			} else if _, f := Load(changed); f != (api.Fault{}) && f != (api.Fault{Code: f.Code, Line: 1, Col: 1}) {
				t.Errorf("other tokens: %v", f)
			}
			if t.Failed() {
				t.Fatalf("%v", tokens)
			}
		}
		least := len(l.Tokens)
		if form == "ss" {
			least = 2
		}
		for n := 1; n < least; n++ {
			check(l.Tokens[:n], api.ErrSyntax, n-1)
		}
		for _, other := range []string{"x", "east", "west", "zz", "Zz", "-1000000", "1000000", "1000001", "-1000001", "\"x\"", "=", "("} {
			scanned, _ := lexer.Scan(other)
			extra := scanned.Tokens[0]
			extra.At = 99
			code := api.ErrSyntax
			if form == "ss" {
				code = modelToken(extra, 's', l.Tokens)
			}
			check(append(slices.Clone(l.Tokens), extra), code, len(l.Tokens))
			for n := 1; n < len(l.Tokens); n++ {
				tokens := slices.Clone(l.Tokens)
				tokens[n] = extra
				check(tokens, modelToken(extra, form[n-1], tokens[:n]), n)
			}
		}
	}
}

// modelToken returns the code of a token that should have a form (# for a number, n for a name, a for an axis, s for a side) behind others.
func modelToken(k api.Token, form byte, before []api.Token) api.Errno {
	switch {
	case form == '#' && k.Kind != api.TokNumber, form != '#' && k.Kind != api.TokWord:
		return api.ErrSyntax
	case form == '#' && (k.N > 1000000 || k.N < -1000000):
		return api.ErrRange
	case form == 'n' && !lexer.Name(k.Text):
		return api.ErrName
	case form == 'a' && !strings.Contains(" x y ", " "+k.Text+" "), form == 's' && !strings.Contains(" east west north south ", " "+k.Text+" "):
		return api.ErrSyntax
	case form == 's' && slices.ContainsFunc(before, func(b api.Token) bool { return b.Text == k.Text }):
		return api.ErrDuplicate
	}
	return api.OK
}

func TestLine(t *testing.T) {
	l, e := Line(rich())
	const want = `survey:
  pit -10 -20 -30 90 80 70
  open east south
  bed low -30
  bed middle 0
  bed high 70
  joint ja x -10 -30 70
  joint jb y 80 0 10
  joint jc x 20 5 40
  flaw fa -30 70:
    corner -10 -20
    corner 90 -20
    corner 90 80
    corner -10 80
  flaw fb 0 10:
    corner 0 0
    corner 10 0
    corner 0 10
  flaw fc 5 9:
    corner 30 30
    corner 40 30
    corner 30 40
`
	if got, f := printer.Print([]api.Line{l}); got != want || e != api.OK || f != api.OK {
		t.Errorf("%s, %d, %d", got, e, f)
	}
	for _, c := range []struct {
		open [4]bool
		want string
	}{
		{[4]bool{}, "survey:\n  pit 0 0 0 9 9 9\n"},
		{[4]bool{true, true, true, true}, "survey:\n  pit 0 0 0 9 9 9\n  open east west north south\n"},
		{[4]bool{false, true, true, false}, "survey:\n  pit 0 0 0 9 9 9\n  open west north\n"},
		{[4]bool{false, false, false, true}, "survey:\n  pit 0 0 0 9 9 9\n  open south\n"},
	} {
		l, e := Line(api.Survey{Pit: cube(0, 9), Open: c.open})
		if got, f := printer.Print([]api.Line{l}); got != c.want || e != api.OK || f != api.OK {
			t.Errorf("%q, %d, %d, want %q", got, e, f, c.want)
		}
	}
	greatest := api.Survey{Pit: bx(-top, -top, -top, top, top, top), Beds: manyBeds(64), Joints: manyJoints(128), Flaws: manyFlaws(64)}
	greatest.Flaws[63].Prism.Base = parabola(64)
	checkLineOf(t, greatest)
	checkLineOf(t, rich())
	checkLineOf(t, exampleAll())
}

// checkLineOf checks that the canonical line of a valid survey has no places, and is loaded as the survey, also as it is printed.
func checkLineOf(t *testing.T, s api.Survey) {
	t.Helper()
	l, e := Line(s)
	if e != api.OK {
		t.Errorf("Line gives %d", e)
	}
	var placeless func(l api.Line) bool
	placeless = func(l api.Line) bool {
		return l.At == 0 && !slices.ContainsFunc(l.Tokens, func(k api.Token) bool { return k.At != 0 }) &&
			!slices.ContainsFunc(l.Kids, func(k api.Line) bool { return !placeless(k) })
	}
	if !placeless(l) {
		t.Errorf("the canonical line has places: %v", l)
	}
	checkLoads(t, l, s)
	source, e := printer.Print([]api.Line{l})
	if e != api.OK {
		t.Errorf("Print gives %d", e)
	}
	again := lineFrom(t, source)
	checkLoads(t, again, s)
	if !Equal(s, copyOf(s)) {
		t.Error("a survey does not equal its copy")
	}
	slices.Reverse(again.Kids)
	checkLoads(t, again, s)
}

func TestResultsShareNoMemory(t *testing.T) {
	s := rich()
	l, _ := Line(s)
	l.Kids[8].Kids[0].Tokens[1].N = 99
	l.Kids[2].Tokens[1].Text = "changed"
	_ = append(l.Kids[2].Tokens, api.Token{})
	_ = append(l.Kids[8].Kids, api.Line{})
	if !same(s, rich()) {
		t.Error("the survey was changed with its line")
	}
	l, _ = Line(s)
	loaded, _ := Load(l)
	before := copyOfLine(l)
	loaded.Beds[0].Z = 5
	loaded.Joints[0].Name = "changed"
	loaded.Flaws[0].Prism.Base[0].X = 77
	if !alike(l, before) {
		t.Error("the line was changed with its survey")
	}
	if again, f := Load(l); f != (api.Fault{}) || !same(again, rich()) {
		t.Errorf("%v, %v", again, f)
	}
	b := s.Pit
	names, _ := Through(s, b)
	names[0] = "changed"
	flaws, _ := Flaws(s, b)
	flaws[0] = "changed"
	set, _ := Jointed(s, b, api.MinusX)
	set[0].Lo = 9
	if !same(s, rich()) {
		t.Error("the survey was changed with a result")
	}
}

// FuzzLoad looks for sources whose lines break Load.
func FuzzLoad(f *testing.F) {
	f.Add(sourceOf(exampleKids...))
	for _, c := range faults {
		f.Add(strings.Replace(sourceOf(exampleKids[0], c.kids), "^", "", 1))
	}
	f.Fuzz(func(t *testing.T, source string) {
		lines, _ := parser.Parse(source)
		for _, l := range lines {
			s, f := Load(l)
			if f.Code != api.OK {
				if !isZero(s) || f.Line < 1 || f.Col < 1 {
					t.Errorf("%v, %v", s, f)
				}
				continue
			}
			if e := Check(s); e != api.OK || f != (api.Fault{}) {
				t.Errorf("Check gives %d; %v", e, f)
			}
			canonical, _ := Line(s)
			if again, f := Load(canonical); f != (api.Fault{}) || !Equal(again, s) {
				t.Errorf("%v is loaded as %v, %v", s, again, f)
			}
		}
	})
}
