package parser

import (
	"math"
	"slices"
	"strings"
	"testing"

	"gangsaw/api"
	"gangsaw/lexer"
)

// words returns a line of so many words.
func words(n int) api.Line { return line(slices.Repeat([]api.Token{word("a")}, n)...) }

// heading makes a heading of a line.
func heading(l api.Line, kids ...api.Line) api.Line {
	l.Heading, l.Kids = true, kids
	return l
}

// deep returns a tree in which a line lies within six others, beside other lines.
func deep(l api.Line) []api.Line {
	lines := tree(l)
	for range 6 {
		lines = tree(note("x"), head("h", lines...), note("y"))
	}
	return lines
}

func TestCheckKnownTrees(t *testing.T) {
	for i, c := range []struct {
		l    api.Line
		want api.Errno
	}{
		{note("a"), api.OK},
		{head("a"), api.OK},
		{line(number(0), number(lexer.MaxNumber), number(-lexer.MaxNumber)), api.OK},
		{line(text("a # b"), sign("("), sign(":"), word("Z_9")), api.OK},
		{line(sign(":"), word("a")), api.OK},
		{line(text(":")), api.OK},
		{heading(line(sign(":"))), api.OK},
		{heading(line(word("a"), sign(":"))), api.OK},
		{words(64), api.OK},
		{heading(words(63)), api.OK},
		{api.Line{Tokens: []api.Token{{Kind: api.TokWord, Text: "a", At: math.MinInt}}, At: math.MinInt}, api.OK},
		{api.Line{Tokens: []api.Token{word("a")}, Kids: []api.Line{}}, api.OK},
		{line(slices.Repeat([]api.Token{text(strings.Repeat("x", api.MaxLabel))}, 64)...), api.OK},
		{line(), api.ErrInvalid},
		{heading(line()), api.ErrInvalid},
		{line(sign(":")), api.ErrInvalid},
		{line(word("a"), sign(":")), api.ErrInvalid},
		{line(word("")), api.ErrInvalid},
		{line(word("a"), word("9")), api.ErrInvalid},
		{line(word("a b")), api.ErrInvalid},
		{line(word(strings.Repeat("x", 41))), api.ErrInvalid},
		{line(word("a"), text(""), word("b")), api.ErrInvalid},
		{line(text(" a")), api.ErrInvalid},
		{line(sign("!")), api.ErrInvalid},
		{line(number(lexer.MaxNumber + 1)), api.ErrInvalid},
		{line(number(math.MinInt64)), api.ErrInvalid},
		{line(api.Token{Kind: api.TokNumber, N: 1, Text: "1"}), api.ErrInvalid},
		{line(api.Token{Kind: api.TokWord, N: 1, Text: "a"}), api.ErrInvalid},
		{line(api.Token{Text: "a"}), api.ErrInvalid},
		{line(api.Token{Kind: 5, Text: "a"}), api.ErrInvalid},
		{line(api.Token{Kind: -1}), api.ErrInvalid},
		{words(65), api.ErrTooMany},
		{heading(words(64)), api.ErrTooMany},
		{words(1000), api.ErrTooMany},
		// Of several errors the first one counts.
		{line(append(words(65).Tokens, word("!"))...), api.ErrInvalid},
		{line(append(words(65).Tokens, sign(":"))...), api.ErrInvalid},
	} {
		for _, lines := range [][]api.Line{tree(c.l), tree(note("a"), c.l, note("b")), deep(c.l)} {
			if e := Check(lines); e != c.want {
				t.Errorf("%d: %d, want %d", i, e, c.want)
			}
		}
		// A bad line counts before a line with too many tokens, wherever both stand.
		if c.want == api.ErrInvalid {
			for _, lines := range [][]api.Line{tree(words(65), c.l), tree(c.l, words(65)), tree(heading(words(65), c.l)), append(chain(9), deep(c.l)...), append(deep(c.l), chain(9)...)} {
				if e := Check(lines); e != api.ErrInvalid {
					t.Errorf("%d among lines with too many tokens or levels: %d", i, e)
				}
			}
		}
	}
}

func TestCheckKids(t *testing.T) {
	bad := api.Line{Tokens: []api.Token{word("a")}, Kids: tree(note("b"))}
	for i, c := range []struct {
		lines []api.Line
		want  api.Errno
	}{
		{nil, api.OK},
		{[]api.Line{}, api.OK},
		{tree(bad), api.ErrInvalid},
		{deep(bad), api.ErrInvalid},
		{tree(heading(words(63), bad)), api.ErrInvalid},
		{chain(7), api.OK},
		{chain(8), api.ErrTooMany},
		{chain(1000), api.ErrTooMany},
		{chain(1 << 16), api.ErrTooMany},
		{deep(head("a", note("b"))), api.ErrTooMany},
		{append(chain(8), bad), api.ErrInvalid},
		{append(tree(words(65)), chain(8)...), api.ErrTooMany},
		{append(chain(7), chain(8)...), api.ErrTooMany},
		{append(chain(8), chain(7)...), api.ErrTooMany},
		{doubled(7), api.OK},
		{doubled(8), api.ErrTooMany},
		{doubled(60), api.ErrTooMany},
		{knot(), api.ErrTooMany},
	} {
		if e := Check(c.lines); e != c.want {
			t.Errorf("%d: %d, want %d", i, e, c.want)
		}
	}
}

func TestMeasure(t *testing.T) {
	for i, c := range []struct {
		lines []api.Line
		want  Total
	}{
		{nil, Total{}},
		{tree(line()), Total{Lines: 1, Depth: 1}},
		{tree(head("a")), Total{Lines: 1, Tokens: 1, Depth: 1}},
		{tree(words(3), line(), words(100)), Total{Lines: 3, Tokens: 103, Depth: 1}},
		{tree(head("a", words(2), head("b", words(5))), note("c")), Total{Lines: 5, Tokens: 10, Depth: 3}},
		{tree(note("c"), head("a", head("b", words(5)), words(2))), Total{Lines: 5, Tokens: 10, Depth: 3}},
		{tree(api.Line{Kids: tree(api.Line{Kids: tree(line(api.Token{}))})}), Total{Lines: 3, Tokens: 1, Depth: 3}},
		{chain(20), Total{Lines: 20, Tokens: 20, Depth: 20}},
		{chain(1 << 16), Total{Lines: 1 << 16, Tokens: 1 << 16, Depth: 1 << 16}},
		{doubled(20), Total{Lines: 1<<21 - 2, Tokens: 1<<21 - 2, Depth: 20}},
		{doubled(40), Total{Lines: 1<<41 - 2, Tokens: 1<<41 - 2, Depth: 40}},
	} {
		if got := Measure(c.lines); got != c.want {
			t.Errorf("%d: %v, want %v", i, got, c.want)
		}
	}
}

// variants returns trees no two of which are the same.
func variants() [][]api.Line {
	return [][]api.Line{
		nil,
		tree(line()),
		tree(heading(line())),
		tree(note("a")),
		tree(note("b")),
		tree(head("a")),
		tree(note("a"), note("a")),
		tree(note("a"), note("b")),
		tree(note("b"), note("a")),
		tree(words(2)),
		tree(line(text("a"))),
		tree(line(sign("a"))),
		tree(line(api.Token{Text: "a"})),
		tree(line(number(0))),
		tree(line(number(1))),
		tree(line(number(1), number(1))),
		tree(line(api.Token{Kind: api.TokWord, Text: "a", N: 1})),
		tree(head("a", note("a"))),
		tree(head("a", note("b"))),
		tree(head("a", head("b"))),
		tree(head("a", note("b"), note("c"))),
		tree(head("a", note("b")), note("c")),
		tree(head("a", head("b", note("c")))),
		tree(head("a", head("b"), note("c"))),
		tree(api.Line{Tokens: []api.Token{word("a")}, Kids: tree(note("b"))}),
		chain(7),
		chain(1000),
		chain(1001),
		doubled(4),
		doubled(64),
		doubled(65),
	}
}

func TestSame(t *testing.T) {
	for i, a := range variants() {
		for j, b := range variants() {
			if got := Same(a, b); got != (i == j) {
				t.Errorf("%d and %d: %v", i, j, got)
			}
		}
	}
	if !Same(nil, []api.Line{}) || !Same(tree(line()), tree(api.Line{Tokens: []api.Token{}, Kids: []api.Line{}})) {
		t.Error("nil and empty lists differ")
	}
	if !Same(knot(), knot()) || Same(knot(), doubled(20)) {
		t.Error("lines that contain themselves")
	}
	a := mustParse(t, "a b:", "  c 1", "d")
	b := mustParse(t, "a  b  :", "", "# c", "  c    1 # e", "", "d")
	if !Same(a, b) || !Same(b, a) {
		t.Errorf("%v and %v differ", a, b)
	}
	b[0].Kids[0].At, b[0].Kids[0].Tokens[1].At = math.MinInt, math.MaxInt
	if !Same(a, b) {
		t.Errorf("%v and %v differ", a, b)
	}
}

func TestSameChangesNothing(t *testing.T) {
	a, b := mustParse(t, "a:", "  b 1"), mustParse(t, "a  :", "  b  1")
	before := show(a) + show(b)
	Same(a, b)
	Check(a)
	Measure(a)
	Only(a, []string{"a"})
	Shape(a[0], []string{"a"})
	if show(a)+show(b) != before {
		t.Error(a, b)
	}
}

func TestLinesThatContainThemselves(t *testing.T) {
	lines := knot()
	if got := Pick(lines, "a"); got != nil {
		t.Errorf("%d lines", len(got))
	}
	if got := Measure(lines); got.Depth < 1<<16 {
		t.Error(got)
	}
	if f := Only(lines, []string{"a"}); f != (api.Fault{Code: api.ErrSyntax}) {
		t.Error(f)
	}
	lines[1].Tokens = nil
	if e := Check(lines); e != api.ErrInvalid {
		t.Error(e)
	}
}

func TestPickOfDeepLines(t *testing.T) {
	lines := chain(1 << 16)
	if got := Pick(lines, "a"); Measure(got) != Measure(lines) || !Same(got, lines) {
		t.Error(Measure(got))
	}
}
