package parser

import (
	"math"
	"slices"
	"strings"
	"testing"

	"gangsaw/api"
	"gangsaw/lexer"
)

func word(s string) api.Token { return api.Token{Kind: api.TokWord, Text: s} }

func number(n int64) api.Token { return api.Token{Kind: api.TokNumber, N: n} }

func text(s string) api.Token { return api.Token{Kind: api.TokText, Text: s} }

func sign(s string) api.Token { return api.Token{Kind: api.TokSign, Text: s} }

func line(tokens ...api.Token) api.Line { return api.Line{Tokens: tokens} }

// note returns a line of one word.
func note(s string) api.Line { return line(word(s)) }

// head returns a heading of one word with kids.
func head(s string, kids ...api.Line) api.Line {
	return api.Line{Tokens: []api.Token{word(s)}, Heading: true, Kids: kids}
}

func tree(lines ...api.Line) []api.Line { return lines }

// columns returns a line whose tokens stand at the columns 10, 20 and so on of the line 7.
func columns(tokens ...api.Token) api.Line {
	l := api.Line{At: 7, Tokens: slices.Clone(tokens)}
	for i := range l.Tokens {
		l.Tokens[i].At = 10 * (i + 1)
	}
	return l
}

// chain returns headings of which each one contains the next one.
func chain(levels int) []api.Line {
	var kids []api.Line
	for range levels {
		kids = tree(head("a", kids...))
	}
	return kids
}

// knot returns a heading that contains itself twice.
func knot() []api.Line {
	lines := tree(head("a"), head("b"))
	lines[0].Kids, lines[1].Kids = lines, lines
	return lines
}

// doubled returns a tree of 2 to the power of levels, less one, times two lines in little memory.
func doubled(levels int) []api.Line {
	var kids []api.Line
	for range levels {
		kids = tree(head("a", kids...), head("b", kids...))
	}
	return kids
}

// draw returns numbers that look random and are the same in every run.
func draw(seed uint64) func(below int) int {
	return func(below int) int {
		seed = seed*6364136223846793005 + 1442695040888963407
		return int(seed>>33) % below
	}
}

// show writes a tree with all that it has, so that trees can be compared as texts.
func show(lines []api.Line) string {
	out := "["
	for _, l := range lines {
		out += string(rune('0'+l.At%10)) + " "
		for _, t := range l.Tokens {
			out += string(rune('0'+t.Kind)) + t.Text + "." + strings.Repeat("i", int(t.N%50)) + "@" + strings.Repeat("c", t.At) + " "
		}
		if l.Heading {
			out += ":"
		}
		out += show(l.Kids)
	}
	return out + "]"
}

// mustParse returns the tree of a source that has no fault.
func mustParse(t *testing.T, rows ...string) []api.Line {
	t.Helper()
	lines, f := Parse(strings.Join(rows, "\n"))
	if f != (api.Fault{}) {
		t.Fatalf("%q: %v", rows, f)
	}
	return lines
}

func TestParseExample(t *testing.T) {
	got := mustParse(t, "wall south:", "  stone a 100", "  stone b 120", "note")
	at := func(at int, t api.Token) api.Token { t.At = at; return t }
	want := tree(
		api.Line{Tokens: []api.Token{at(1, word("wall")), at(6, word("south"))}, Heading: true, At: 1, Kids: tree(
			api.Line{Tokens: []api.Token{at(3, word("stone")), at(9, word("a")), at(11, number(100))}, At: 2},
			api.Line{Tokens: []api.Token{at(3, word("stone")), at(9, word("b")), at(11, number(120))}, At: 3},
		)},
		api.Line{Tokens: []api.Token{at(1, word("note"))}, At: 4},
	)
	if show(got) != show(want) {
		t.Errorf("%v", got)
	}
	if m := Measure(got); m != (Total{Lines: 4, Tokens: 9, Depth: 2}) {
		t.Error(m)
	}
}

// sources are sources without a fault, with the numbers of their lines, in parentheses within the line to which they belong.
var sources = []struct{ source, want string }{
	{"", ""},
	{"\n", ""},
	{"\n\n  # c\n   \n#", ""},
	{"a", "1"},
	{"a\n", "1"},
	{"a\nb", "1 2"},
	{"\n\na\n # c\nb\n\n", "3 5"},
	{"a:", "1"},
	{"a:\nb", "1 2"},
	{"a:\nb:\n  c", "1 2(3)"},
	{"a:\n  b\n  c\nd", "1(2 3) 4"},
	{"a:\n  b:\n    c\n  d", "1(2(3) 4)"},
	{"a:\n  b:\n    c:\n      d\ne", "1(2(3(4))) 5"},
	{"a:\n  b:\n    c:\n      d\n    e\n  f\ng", "1(2(3(4) 5) 6) 7"},
	{"a:\n  b:\nc:\n  d", "1(2) 3(4)"},
	{"a:\n  b:\n    c\n  d:\n    e\n    f\n  g", "1(2(3) 4(5 6) 7)"},
	{"a:\n\n# c\n      # d\n \n  b", "1(6)"},
	{"a:\n  b\n#\n  c", "1(2 4)"},
	{"a:\n  b:\n    c:\n      d:\n        e:\n          f:\n            g", "1(2(3(4(5(6(7))))))"},
	{"a:\n  b:\n    c:\n      d:\n        e:\n          f:\n            g:\n            h:\n  i", "1(2(3(4(5(6(7 8))))) 9)"},
}

// numbers writes the numbers of the lines of a tree.
func numbers(lines []api.Line) string {
	var parts []string
	for _, l := range lines {
		part := string(rune('0' + l.At))
		if len(l.Kids) > 0 {
			part += "(" + numbers(l.Kids) + ")"
		}
		parts = append(parts, part)
	}
	return strings.Join(parts, " ")
}

func TestParseKnownSources(t *testing.T) {
	for _, c := range sources {
		got, f := Parse(c.source)
		if f != (api.Fault{}) || numbers(got) != c.want {
			t.Errorf("%q: %s, %v, want %s", c.source, numbers(got), f, c.want)
		}
		if e := Check(got); e != api.OK {
			t.Errorf("%q: the tree is not well formed: %d", c.source, e)
		}
	}
}

func TestParseKnownFaults(t *testing.T) {
	for _, c := range []struct {
		source string
		want   api.Fault
	}{
		{"note\n  stone a", api.Fault{Code: api.ErrSyntax, Line: 2, Col: 3}},
		{"  a", api.Fault{Code: api.ErrSyntax, Line: 1, Col: 3}},
		{"\n# c\n  a", api.Fault{Code: api.ErrSyntax, Line: 3, Col: 3}},
		{"            a", api.Fault{Code: api.ErrSyntax, Line: 1, Col: 13}},
		{"a:\n    b", api.Fault{Code: api.ErrSyntax, Line: 2, Col: 5}},
		{"a:\n  b\n    c", api.Fault{Code: api.ErrSyntax, Line: 3, Col: 5}},
		{"a:\nb\n  c", api.Fault{Code: api.ErrSyntax, Line: 3, Col: 3}},
		{"a:\n  b:\nc\n  d", api.Fault{Code: api.ErrSyntax, Line: 4, Col: 3}},
		{"a:\n  b:\n    c\nd\n    e", api.Fault{Code: api.ErrSyntax, Line: 5, Col: 5}},
		{"a\n\n#\n  b", api.Fault{Code: api.ErrSyntax, Line: 4, Col: 3}},
		{"a:\n  b:\n    c:\n      d:\n        e:\n          f:\n            g:\n              h", api.Fault{Code: api.ErrTooMany, Line: 8, Col: 15}},
		{"a\n\n!", api.Fault{Code: api.ErrSyntax, Line: 3, Col: 1}},
		{"a\nb 1000000000000001\n!", api.Fault{Code: api.ErrRange, Line: 2, Col: 3}},
		{"a \"\"", api.Fault{Code: api.ErrName, Line: 1, Col: 3}},
		{"a\n   b", api.Fault{Code: api.ErrSyntax, Line: 2, Col: 4}},
		{"a\n:\n", api.Fault{Code: api.ErrSyntax, Line: 2, Col: 1}},
		{"a\n" + strings.Repeat("x ", 65), api.Fault{Code: api.ErrTooMany, Line: 2, Col: 129}},
		{"a\n" + strings.Repeat(" ", 1001), api.Fault{Code: api.ErrTooMany, Line: 2, Col: 1001}},
		// Of several faults the first one counts: the fault of a line before its depth, and that before the faults of other lines.
		{"a\n  b !", api.Fault{Code: api.ErrSyntax, Line: 2, Col: 5}},
		{"a\n  b \"\"", api.Fault{Code: api.ErrName, Line: 2, Col: 5}},
		{"a\n  b\n!", api.Fault{Code: api.ErrSyntax, Line: 2, Col: 3}},
		{"a \"\"\n  b", api.Fault{Code: api.ErrName, Line: 1, Col: 3}},
		{"  a\n!", api.Fault{Code: api.ErrSyntax, Line: 1, Col: 3}},
	} {
		if got, f := Parse(c.source); got != nil || f != c.want {
			t.Errorf("%.60q: %v, %v, want %v", c.source, got, f, c.want)
		}
	}
}

func TestParseLongSources(t *testing.T) {
	full := strings.Repeat("a\n", api.MaxSource/2)
	if got, f := Parse(full); f != (api.Fault{}) || len(got) != api.MaxSource/2 || got[len(got)-1].At != api.MaxSource/2 {
		t.Errorf("%d lines, %v", len(got), f)
	}
	for _, source := range []string{full + "\n", full + "!", "!" + full, "  " + full} {
		if got, f := Parse(source); got != nil || f != (api.Fault{Code: api.ErrTooMany, Line: 1, Col: 1}) {
			t.Errorf("%d lines, %v", len(got), f)
		}
	}
	kids := "a:\n" + strings.Repeat("  b\n", (api.MaxSource-3)/4)
	if got, f := Parse(kids); f != (api.Fault{}) || len(got) != 1 || len(got[0].Kids) != (api.MaxSource-3)/4 {
		t.Errorf("%d lines, %v", len(got), f)
	}
}

// modelParse finds for each line the last one before it whose depth is one less, and builds the tree from that.
func modelParse(source string) ([]api.Line, api.Fault) {
	var flat []api.Line
	var depths, above []int
	rows := strings.Split(source, "\n")
	for i, row := range rows {
		s, f := lexer.Scan(row)
		if f.Code != api.OK {
			f.Line = i + 1
			return nil, f
		}
		if len(s.Tokens) == 0 {
			continue
		}
		most := 0
		if n := len(flat); n > 0 {
			most = depths[n-1]
			if flat[n-1].Heading {
				most++
			}
		}
		if s.Indent > most {
			return nil, api.Fault{Code: api.ErrSyntax, Line: i + 1, Col: s.Tokens[0].At}
		}
		parent := -1
		for j, d := range depths {
			if d == s.Indent-1 {
				parent = j
			}
		}
		flat = append(flat, api.Line{Tokens: s.Tokens, Heading: s.Heading, At: i + 1})
		depths, above = append(depths, s.Indent), append(above, parent)
	}
	var build func(parent int) []api.Line
	build = func(parent int) []api.Line {
		var out []api.Line
		for i, l := range flat {
			if above[i] == parent {
				l.Kids = build(i)
				out = append(out, l)
			}
		}
		return out
	}
	return build(-1), api.Fault{}
}

// drawSource returns a source whose lines often are deeper than the ones before them, and that often has a fault.
func drawSource(next func(below int) int, lines int) string {
	depth := 0
	var rows []string
	for range lines {
		row := strings.Repeat("  ", depth) + []string{"a", "b 1", "c \"x\" (", "d, e"}[next(4)]
		switch next(8) {
		case 0, 1, 2, 3:
			row += ":"
			depth += next(20) / 19 * next(2)
			depth++
		case 4:
			row = strings.Repeat(" ", next(9)) + "# c"
		case 5:
			depth = max(0, depth-1-next(2))
		}
		if next(60) == 0 {
			row += []string{" !", "", " 9999999999999999", " \""}[next(4)]
			depth += next(2)
		}
		rows = append(rows, row)
	}
	return strings.Join(rows, "\n")
}

func TestParseDrawnSources(t *testing.T) {
	next := draw(1)
	good := 0
	for range 20000 {
		source := drawSource(next, next(14))
		got, f := Parse(source)
		want, g := modelParse(source)
		if f != g || show(got) != show(want) {
			t.Fatalf("%q: %v, %v, want %v, %v", source, got, f, want, g)
		}
		if f.Code == api.OK {
			good++
			if e := Check(got); e != api.OK {
				t.Fatalf("%q: Check gives %d", source, e)
			}
		}
		checkBegins(t, source, f)
		checkLinesWithoutTokens(t, next, source)
	}
	if good < 1000 || good > 19000 {
		t.Errorf("%d of 20000 sources have no fault", good)
	}
}

// checkBegins checks that the begins of a source, up to the end of a line, have its fault or none.
func checkBegins(t *testing.T, source string, f api.Fault) {
	rows := strings.Split(source, "\n")
	for n := range rows {
		_, g := Parse(strings.Join(rows[:n], "\n"))
		if want := f; g != (api.Fault{}) && g != want || n >= f.Line && f.Line > 0 && g != f {
			t.Fatalf("%q: the first %d lines have %v, all have %v", source, n, g, f)
		}
	}
}

// checkLinesWithoutTokens checks that lines without tokens, and comments, change only At.
func checkLinesWithoutTokens(t *testing.T, next func(below int) int, source string) {
	got, f := Parse(source)
	if f.Code != api.OK {
		return
	}
	var rows []string
	for row := range strings.SplitSeq(source, "\n") {
		for range next(3) {
			rows = append(rows, strings.Repeat(" ", next(20))+"# x")
		}
		rows = append(rows, row+" # y")
	}
	more, f := Parse(strings.Join(rows, "\n") + "\n\n")
	if f != (api.Fault{}) || !Same(got, more) || Measure(got) != Measure(more) {
		t.Fatalf("%q: %v, %v", source, more, f)
	}
}

func TestParseSharesNoMemory(t *testing.T) {
	const source = "a:\n  b:\n    c\n    d\n  e\nf"
	want, _ := Parse(source)
	got, _ := Parse(source)
	var wipe func(lines []api.Line)
	wipe = func(lines []api.Line) {
		for _, l := range lines[:cap(lines)] {
			wipe(l.Kids)
			clear(l.Tokens[:cap(l.Tokens)])
		}
		clear(lines[:cap(lines)])
	}
	wipe(got[0].Kids[0].Kids)
	got[0].Kids[0].Kids = nil
	if got[0].Kids[1].Tokens[0].Text != "e" || got[0].Kids[0].Tokens[0].Text != "b" || got[1].Tokens[0].Text != "f" {
		t.Errorf("the kids share memory with other lines: %v", got)
	}
	wipe(got)
	if again, _ := Parse(source); show(again) != show(want) {
		t.Errorf("a result is kept: %v", again)
	}
}

func TestWord(t *testing.T) {
	for _, c := range []struct {
		l    api.Line
		want string
	}{
		{line(), ""}, {note("a"), "a"}, {line(word("Stone"), word("b")), "Stone"}, {head("wall"), "wall"},
		{line(number(5), word("a")), ""}, {line(text("a")), ""}, {line(sign("(")), ""}, {line(api.Token{Text: "a"}), ""}, {line(api.Token{Kind: math.MaxInt, Text: "a"}), ""},
		{line(word("no word!")), "no word!"},
	} {
		if got := Word(c.l); got != c.want {
			t.Errorf("%v: %q", c.l, got)
		}
	}
}

func TestPick(t *testing.T) {
	lines := mustParse(t, "wall a:", "  bed x", "bed y 1", "wall b", "5 bed", "\"bed\"", "bed z:", "  wall c:", "    bed w", "(")
	for _, c := range []struct{ word, want string }{
		{"wall", "1(2) 4"}, {"bed", "3 7(8(9))"}, {"stone", ""}, {"Bed", ""}, {"be", ""}, {"", "5 6 :"}, {"(", ""}, {"5", ""},
	} {
		if got := Pick(lines, c.word); numbers(got) != c.want {
			t.Errorf("%q: %s, want %s", c.word, numbers(got), c.want)
		}
	}
	if got := Pick(lines, "bed"); show(got) != show(tree(lines[1], lines[5])) {
		t.Errorf("Pick changes lines: %v", got)
	}
	if got := Pick(nil, "a"); len(got) != 0 {
		t.Error(got)
	}
	if got := Pick(tree(line()), ""); len(got) != 1 {
		t.Error(got)
	}
}

func TestPickSharesNoMemory(t *testing.T) {
	lines := mustParse(t, "a:", "  b:", "    c 1 2 3", "a")
	want := show(lines)
	got := Pick(lines, "a")
	for _, l := range got {
		for _, m := range l.Kids {
			clear(m.Kids[0].Tokens[:cap(m.Kids[0].Tokens)])
			clear(m.Kids[:cap(m.Kids)])
			clear(m.Tokens[:cap(m.Tokens)])
		}
		clear(l.Kids[:cap(l.Kids)])
		clear(l.Tokens[:cap(l.Tokens)])
	}
	clear(got[:cap(got)])
	if show(lines) != want {
		t.Errorf("Pick shares memory with its argument: %v", lines)
	}
	kids := tree(note("b"))
	got = Pick(tree(head("a", kids...), head("a", kids...)), "a")
	got[0].Kids[0].Tokens[0] = word("c")
	got[0].Kids[0].Heading = true
	if got[1].Kids[0].Tokens[0] != word("b") || got[1].Kids[0].Heading || kids[0].Tokens[0] != word("b") {
		t.Errorf("two lines of the result share memory: %v", got)
	}
	spare := api.Line{Tokens: make([]api.Token, 1, 4), Kids: make([]api.Line, 0, 4), Heading: true}
	spare.Tokens[0] = word("a")
	got = Pick(tree(spare), "a")
	_ = append(got[0].Kids, note("x"))
	_ = append(got[0].Tokens, word("x"))
	if spare.Kids[:1][0].Tokens != nil || spare.Tokens[:2][1].Kind != 0 {
		t.Error("Pick keeps spare memory of its argument")
	}
}

func TestOnly(t *testing.T) {
	lines := mustParse(t, "wall a:", "  hole", "bed b", "", "  # c", "bed c:", "  7", "stone")
	for _, c := range []struct {
		words []string
		want  api.Fault
	}{
		{[]string{"wall", "bed", "stone"}, api.Fault{}},
		{[]string{"stone", "bed", "x", "wall", "bed"}, api.Fault{}},
		{[]string{"wall", "bed"}, api.Fault{Code: api.ErrSyntax, Line: 8, Col: 1}},
		{[]string{"wall", "stone"}, api.Fault{Code: api.ErrSyntax, Line: 3, Col: 1}},
		{[]string{"Wall", "bed", "stone"}, api.Fault{Code: api.ErrSyntax, Line: 1, Col: 1}},
		{[]string{""}, api.Fault{Code: api.ErrSyntax, Line: 1, Col: 1}},
		{nil, api.Fault{Code: api.ErrSyntax, Line: 1, Col: 1}},
	} {
		if f := Only(lines, c.words); f != c.want {
			t.Errorf("%q: %v, want %v", c.words, f, c.want)
		}
	}
	if f := Only(nil, nil); f != (api.Fault{}) {
		t.Error(f)
	}
	for _, c := range []struct {
		l    api.Line
		want api.Fault
	}{
		{columns(number(5)), api.Fault{Code: api.ErrSyntax, Line: 7, Col: 10}},
		{columns(text("bed"), word("bed")), api.Fault{Code: api.ErrSyntax, Line: 7, Col: 10}},
		{columns(sign("(")), api.Fault{Code: api.ErrSyntax, Line: 7, Col: 10}},
		{columns(sign("bed")), api.Fault{Code: api.ErrSyntax, Line: 7, Col: 10}},
		{columns(), api.Fault{Code: api.ErrSyntax, Line: 7, Col: 1}},
		{columns(word("bed"), number(1)), api.Fault{}},
	} {
		if f := Only(tree(note("bed"), c.l), []string{"", "(", "5", "bed"}); f != c.want {
			t.Errorf("%v: %v, want %v", c.l, f, c.want)
		}
	}
}

func TestBad(t *testing.T) {
	l := columns(word("a"), number(1), sign("("))
	for _, c := range []struct{ token, col int }{{0, 10}, {1, 20}, {2, 30}, {3, 30}, {64, 30}, {math.MaxInt, 30}, {-1, 30}, {math.MinInt, 30}} {
		if f := Bad(api.ErrRange, l, c.token); f != (api.Fault{Code: api.ErrRange, Line: 7, Col: c.col}) {
			t.Errorf("%d: %v", c.token, f)
		}
		if f := Bad(api.ErrName, columns(), c.token); f != (api.Fault{Code: api.ErrName, Line: 7, Col: 1}) {
			t.Errorf("%d: %v", c.token, f)
		}
	}
	if f := Bad(api.OK, api.Line{}, 0); f != (api.Fault{Col: 1}) {
		t.Error(f)
	}
	if f := Bad(-9, api.Line{At: -5, Tokens: []api.Token{{At: -3}}}, 0); f != (api.Fault{Code: -9, Line: -5, Col: -3}) {
		t.Error(f)
	}
}
