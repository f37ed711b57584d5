package printer

import (
	"math"
	"slices"
	"strings"
	"testing"

	"gangsaw/api"
	"gangsaw/lexer"
	"gangsaw/parser"
)

func word(s string) api.Token { return api.Token{Kind: api.TokWord, Text: s} }

func number(n int64) api.Token { return api.Token{Kind: api.TokNumber, N: n} }

func text(s string) api.Token { return api.Token{Kind: api.TokText, Text: s} }

func sign(s string) api.Token { return api.Token{Kind: api.TokSign, Text: s} }

func line(tokens ...api.Token) api.Line { return api.Line{Tokens: tokens} }

func note(s string) api.Line { return line(word(s)) }

func heading(l api.Line, kids ...api.Line) api.Line {
	l.Heading, l.Kids = true, kids
	return l
}

func head(s string, kids ...api.Line) api.Line { return heading(note(s), kids...) }

func tree(lines ...api.Line) []api.Line { return lines }

// words returns a line of so many words.
func words(n int) api.Line { return line(slices.Repeat([]api.Token{word("a")}, n)...) }

// within returns a tree in which lines lie within so many others.
func within(levels int, lines ...api.Line) []api.Line {
	for range levels {
		lines = tree(head("h", lines...))
	}
	return lines
}

// knot returns a heading that contains itself twice.
func knot() []api.Line {
	lines := tree(head("a"), head("b"))
	lines[0].Kids, lines[1].Kids = lines, lines
	return lines
}

// multiplied returns a tree of 7 levels in little memory, in which each line stands in the place of many.
func multiplied(width int) []api.Line {
	var kids []api.Line
	for range 7 {
		kids = slices.Repeat(tree(head("a", kids...)), width)
	}
	return kids
}

// filled returns a line without a heading whose canonical line within so many others has so many bytes, at least 42.
func filled(depth, size int) api.Line {
	rest := size - 2*depth
	var l api.Line
	for rest > 2*api.MaxLabel {
		l.Tokens = append(l.Tokens, word(strings.Repeat("x", api.MaxLabel)))
		rest -= api.MaxLabel + 1
	}
	return line(append(l.Tokens, word(strings.Repeat("y", rest/2)), word(strings.Repeat("z", rest-rest/2-1)))...)
}

// draw returns numbers that look random and are the same in every run.
func draw(seed uint64) func(below int) int {
	return func(below int) int {
		seed = seed*6364136223846793005 + 1442695040888963407
		return int(seed>>33) % below
	}
}

// alike reports whether two trees are equal, with their numbers and columns.
func alike(a, b []api.Line) bool {
	return slices.EqualFunc(a, b, func(x, y api.Line) bool {
		return x.At == y.At && x.Heading == y.Heading && slices.Equal(x.Tokens, y.Tokens) && alike(x.Kids, y.Kids)
	})
}

// copyOf returns a tree in other memory.
func copyOf(lines []api.Line) []api.Line {
	out := slices.Clone(lines)
	for i, l := range lines {
		out[i].Tokens, out[i].Kids = slices.Clone(l.Tokens), copyOf(l.Kids)
	}
	return out
}

// mustParse returns the tree of a source that has no fault.
func mustParse(t *testing.T, source string) []api.Line {
	t.Helper()
	lines, f := parser.Parse(source)
	if f != (api.Fault{}) {
		t.Fatalf("%q: %v", source, f)
	}
	return lines
}

// checkTree checks all that is promised of a tree with a canonical source.
func checkTree(t *testing.T, lines []api.Line, want string) {
	t.Helper()
	before := copyOf(lines)
	if e := Check(lines); e != api.OK {
		t.Errorf("%.60q: Check gives %d", want, e)
	}
	if got, e := Print(lines); got != want || e != api.OK {
		t.Errorf("%.60q is printed as %.60q, %d", want, got, e)
	}
	if got, e := Number(lines); !alike(got, modelNumber(lines)) || e != api.OK {
		t.Errorf("%.60q is numbered as %v, %d", want, got, e)
	}
	if got, e := Rows(want); strings.Join(got, "\n") != strings.TrimSuffix(want, "\n") || e != api.OK {
		t.Errorf("%.60q has the rows %.60q, %d", want, got, e)
	}
	if again, f := parser.Parse(want); f != (api.Fault{}) || !alike(again, modelNumber(lines)) || !Same(lines, again) {
		t.Errorf("%.60q is read as %v, %v", want, again, f)
	}
	if !alike(lines, before) {
		t.Errorf("%.60q: the tree was changed", want)
	}
}

// checkError checks that a tree cannot be printed.
func checkError(t *testing.T, lines []api.Line, want api.Errno) {
	t.Helper()
	if e := Check(lines); e != want {
		t.Errorf("Check gives %d, want %d", e, want)
	}
	if got, e := Print(lines); got != "" || e != want {
		t.Errorf("Print gives %.60q, %d, want %d", got, e, want)
	}
	if got, e := Number(lines); got != nil || e != want {
		t.Errorf("Number gives %d lines, %d, want %d", len(got), e, want)
	}
}

// modelRow puts a mark between all tokens, and takes away the marks that are too much.
func modelRow(tokens []api.Token) string {
	var parts []string
	for _, k := range tokens {
		s, _ := lexer.Spell(k)
		parts = append(parts, s)
	}
	return strings.NewReplacer("(\n", "(", "\n", " ").Replace(strings.NewReplacer("\n)", ")", "\n,", ",").Replace(strings.Join(parts, "\n")))
}

// modelNumber gives each line the number of the lines in front of it, plus 1, and each token the column at which the row up to it ends, less its own bytes.
func modelNumber(lines []api.Line) []api.Line {
	front := 0
	var number func(lines []api.Line, depth int) []api.Line
	number = func(lines []api.Line, depth int) []api.Line {
		out := copyOf(lines)
		for i, l := range lines {
			front++
			out[i].At = front
			for k, t := range l.Tokens {
				s, _ := lexer.Spell(t)
				out[i].Tokens[k].At = 2*depth + len(modelRow(l.Tokens[:k+1])) - len(s) + 1
			}
			out[i].Kids = number(l.Kids, depth+1)
		}
		return out
	}
	return number(lines, 0)
}

// modelPrint writes the rows of a tree one after the other.
func modelPrint(lines []api.Line, depth int) string {
	out := ""
	for _, l := range lines {
		out += strings.Repeat(" ", 2*depth) + modelRow(l.Tokens)
		if l.Heading {
			out += ":"
		}
		out += "\n" + modelPrint(l.Kids, depth+1)
	}
	return out
}

func TestExample(t *testing.T) {
	const source = "wall  south :\n  joint ( 5 , 10 )  # mm"
	checkTree(t, mustParse(t, source), "wall south:\n  joint (5, 10)\n")
	if rows, e := Rows(source); !slices.Equal(rows, []string{"wall south:", "  joint (5, 10)"}) || e != api.OK {
		t.Errorf("%q, %d", rows, e)
	}
	got, e := Number(mustParse(t, "\n\n"+source))
	at := func(at int, k api.Token) api.Token { k.At = at; return k }
	want := tree(api.Line{Tokens: []api.Token{at(1, word("wall")), at(6, word("south"))}, Heading: true, At: 1, Kids: tree(
		api.Line{Tokens: []api.Token{at(3, word("joint")), at(9, sign("(")), at(10, number(5)), at(11, sign(",")), at(13, number(10)), at(15, sign(")"))}, At: 2},
	)})
	if !alike(got, want) || e != api.OK {
		t.Errorf("%v, %d", got, e)
	}
}

func TestToken(t *testing.T) {
	long := strings.Repeat("x", api.MaxLabel)
	for _, c := range []struct {
		token api.Token
		want  string
	}{
		{word("a"), "a"}, {word("Zz_9"), "Zz_9"}, {word(long), long}, {number(0), "0"}, {number(-120), "-120"}, {number(lexer.MaxNumber), "1000000000000000"}, {number(-lexer.MaxNumber), "-1000000000000000"}, {text("a b"), "\"a b\""}, {text("("), "\"(\""}, {sign(":"), ":"}, {sign("("), "("},
		{api.Token{Kind: api.TokWord, Text: "a", At: math.MinInt}, "a"},
	} {
		if got, e := Token(c.token); got != c.want || e != api.OK {
			t.Errorf("%v: %q, %d", c.token, got, e)
		}
	}
	for _, k := range []api.Token{
		{}, word(""), word("a b"), word("9"), word("_"), word(long + "x"), number(lexer.MaxNumber + 1), number(math.MinInt64), text(""), text(" a"), text("a\""), text(long + "x"), sign(""), sign("!"), sign("()"), {Kind: 5, Text: "a"}, {Kind: -1, Text: "a"}, {Kind: api.TokNumber, N: 1, Text: "1"}, {Kind: api.TokSign, N: 1, Text: "("},
	} {
		if got, e := Token(k); got != "" || e != api.ErrSyntax {
			t.Errorf("%v: %q, %d", k, got, e)
		}
	}
}

// canonical has sources with their canonical sources.
var canonical = []struct{ source, want string }{
	{"", ""},
	{"\n\n", ""},
	{"# c", ""},
	{"   # c\n\n    #", ""},
	{"a", "a\n"},
	{"a\n", "a\n"},
	{"\n\na # c\n# d\n\nb", "a\nb\n"},
	{"a   b    1  # c", "a b 1\n"},
	{"a#", "a\n"},
	{"  #\na:#\n\n  b#\n#", "a:\n  b\n"},
	{"a :", "a:\n"},
	{"a   :   # c", "a:\n"},
	{"a::", "a ::\n"},
	{"::", "::\n"},
	{": :", "::\n"},
	{"(:", "(:\n"},
	{"):", "):\n"},
	{"a ( :", "a (:\n"},
	{"a:b", "a : b\n"},
	{":a", ": a\n"},
	{"( a", "(a\n"},
	{") a", ") a\n"},
	{", a", ", a\n"},
	{"a(b)c", "a (b) c\n"},
	{"a ( b ) c", "a (b) c\n"},
	{"()", "()\n"},
	{"( )", "()\n"},
	{")(", ") (\n"},
	{"( ( a ) )", "((a))\n"},
	{"a ( ) ( )", "a () ()\n"},
	{"( , ) , (", "(,), (\n"},
	{",,", ",,\n"},
	{"a , , b", "a,, b\n"},
	{"a,b", "a, b\n"},
	{"(-1,+2)", "(-1, + 2)\n"},
	{"1-2", "1 -2\n"},
	{"a-1", "a -1\n"},
	{"a=b<c>d+e/f", "a = b < c > d + e / f\n"},
	{"a<>b", "a < > b\n"},
	{"a=(b", "a = (b\n"},
	{"a)=b", "a) = b\n"},
	{"a,=b", "a, = b\n"},
	{"\"a\"\"b\"c", "\"a\" \"b\" c\n"},
	{"a \"(\" b", "a \"(\" b\n"},
	{"a \")\" \",\" b", "a \")\" \",\" b\n"},
	{"(\"(\")", "(\"(\")\n"},
	{"\"a  # b\"", "\"a  # b\"\n"},
	{"a:\n  b:\n    c\n  d\ne:\n  f", "a:\n  b:\n    c\n  d\ne:\n  f\n"},
	{"a:\n  b:\n    c:\n      d:\n        e:\n          f:\n            g:", "a:\n  b:\n    c:\n      d:\n        e:\n          f:\n            g:\n"},
	{"a:\nb", "a:\nb\n"},
}

func TestKnownSources(t *testing.T) {
	for _, c := range canonical {
		checkTree(t, mustParse(t, c.source), c.want)
		if rows, e := Rows(c.source); strings.Join(rows, "\n") != strings.TrimSuffix(c.want, "\n") || e != api.OK {
			t.Errorf("%q: the rows %q, %d", c.source, rows, e)
		}
	}
	if rows, e := Rows("\n# c\n"); len(rows) != 0 || e != api.OK {
		t.Errorf("an empty source has the rows %q, %d", rows, e)
	}
}

// TestNeighbours prints every sign in front of and behind every other token, at the begin and at the end of a line.
func TestNeighbours(t *testing.T) {
	tokens := []api.Token{word("a"), number(7), number(-7), text("t"), text("("), text(")"), text(",")}
	for _, s := range "(),=:<>+/" {
		tokens = append(tokens, sign(string(s)))
	}
	for _, a := range tokens {
		for _, b := range tokens {
			for _, list := range [][]api.Token{{a, b}, {word("x"), a, b}, {a, b, number(1)}, {a, number(1), b}} {
				h := heading(line(list...))
				checkTree(t, tree(h), modelRow(list)+":\n")
				checkTree(t, within(2, h), "h:\n  h:\n    "+modelRow(list)+":\n")
				if list[len(list)-1] != sign(":") {
					checkTree(t, tree(line(list...)), modelRow(list)+"\n")
				}
			}
		}
	}
}

func TestAtDoesNotMatter(t *testing.T) {
	lines := tree(head("a", line(number(1), sign("("))), note("b"))
	lines[0].At, lines[0].Kids[0].At, lines[1].Tokens[0].At = math.MaxInt, -1, math.MinInt
	lines[0].Kids[0].Tokens[1].At = 99
	checkTree(t, lines, "a:\n  1 (\nb\n")
	checkTree(t, []api.Line{}, "")
	checkTree(t, tree(api.Line{Tokens: []api.Token{word("a")}, Kids: []api.Line{}}), "a\n")
}

func TestTreesThatAreNotWellFormed(t *testing.T) {
	for i, c := range []struct {
		l    api.Line
		want api.Errno
	}{
		{line(), api.ErrInvalid},
		{heading(line()), api.ErrInvalid},
		{line(sign(":")), api.ErrInvalid},
		{line(word("a"), sign(":")), api.ErrInvalid},
		{line(word("")), api.ErrInvalid},
		{line(word("a"), text(""), word("b")), api.ErrInvalid},
		{line(word(strings.Repeat("x", 41))), api.ErrInvalid},
		{line(sign("!")), api.ErrInvalid},
		{line(number(lexer.MaxNumber + 1)), api.ErrInvalid},
		{line(api.Token{Text: "a"}), api.ErrInvalid},
		{api.Line{Tokens: []api.Token{word("a")}, Kids: tree(note("b"))}, api.ErrInvalid},
		{words(65), api.ErrTooMany},
		{heading(words(64)), api.ErrTooMany},
		{within(7, note("a"))[0], api.ErrTooMany},
		{head("a", knot()...), api.ErrTooMany},
		// Of several errors the first one counts: ErrTooMany of the canonical lines comes last.
		{head("a", filled(1, 1001), line()), api.ErrInvalid},
		{head("a", append(slices.Repeat(tree(note("b")), api.MaxSource), line())...), api.ErrInvalid},
		{heading(words(65), line()), api.ErrInvalid},
	} {
		for _, lines := range [][]api.Line{tree(c.l), tree(note("a"), c.l), tree(c.l, note("a")), within(4, note("a"), c.l), tree(head("a", c.l), filled(0, 1001))} {
			checkError(t, lines, c.want)
		}
		if t.Failed() {
			t.Fatalf("in the line %d", i)
		}
	}
	checkTree(t, tree(words(64), heading(words(63))), strings.Repeat("a ", 63)+"a\n"+strings.Repeat("a ", 62)+"a:\n")
	checkTree(t, within(6, note("a")), "h:\n  h:\n    h:\n      h:\n        h:\n          h:\n            a\n")
}

func TestLongLines(t *testing.T) {
	for depth := range 7 {
		for _, h := range []bool{false, true} {
			colon := 0
			if h {
				colon = 1
			}
			for size := lexer.MaxLine - 2; size <= lexer.MaxLine+2; size++ {
				l := filled(depth, size-colon)
				l.Heading = h
				lines := within(depth, note("b"), l, note("c"))
				if size > lexer.MaxLine {
					checkError(t, lines, api.ErrTooMany)
					continue
				}
				source := modelPrint(lines, 0)
				if longest := slices.MaxFunc(strings.Split(source, "\n"), func(a, b string) int { return len(a) - len(b) }); len(longest) != size {
					t.Fatalf("a line has %d bytes, want %d", len(longest), size)
				}
				checkTree(t, lines, source)
			}
		}
	}
	checkError(t, tree(line(slices.Repeat([]api.Token{text(strings.Repeat("x", 40))}, 64)...)), api.ErrTooMany)
}

func TestLongSources(t *testing.T) {
	full := slices.Repeat(tree(note("a")), api.MaxSource/2)
	checkTree(t, full, strings.Repeat("a\n", api.MaxSource/2))
	checkError(t, append(slices.Clone(full), note("a")), api.ErrTooMany)
	checkError(t, append(slices.Clone(full[1:]), note("ab")), api.ErrTooMany)
	checkError(t, append(tree(note("ab")), full[1:]...), api.ErrTooMany)
	checkTree(t, append(tree(note("abc")), full[2:]...), "abc\n"+strings.Repeat("a\n", api.MaxSource/2-2))
	checkTree(t, append(tree(note("ab")), full[2:]...), "ab\n"+strings.Repeat("a\n", api.MaxSource/2-2))
	checkError(t, append(tree(heading(note("abc"))), full[2:]...), api.ErrTooMany)
	checkTree(t, append(tree(heading(note("ab"))), full[2:]...), "ab:\n"+strings.Repeat("a\n", api.MaxSource/2-2))
	// A heading of 3 bytes, and kids of 4 bytes each, one of which has 5.
	kids := slices.Repeat(tree(note("a")), api.MaxSource/4-1)
	kids[5] = note("ab")
	checkTree(t, tree(head("a", kids...)), strings.Replace("a:\n"+strings.Repeat("  a\n", api.MaxSource/4-1), "a\n  a\n  a\n  a\n  a\n  a\n", "a\n  a\n  a\n  a\n  a\n  ab\n", 1))
	kids[6] = note("ab")
	checkError(t, tree(head("a", kids...)), api.ErrTooMany)
	// Of these sources there is no room for all lines.
	for _, width := range []int{10, 1000, 5000} {
		checkError(t, multiplied(width), api.ErrTooMany)
	}
	checkTree(t, multiplied(2), modelPrint(multiplied(2), 0))
	checkError(t, knot(), api.ErrTooMany)
}

func TestNumberSharesNoMemory(t *testing.T) {
	kids := tree(note("b"), line(sign("("), number(1)))
	lines := tree(head("a", kids...), head("a", kids...))
	want := modelNumber(lines)
	before := copyOf(lines)
	got, _ := Number(lines)
	got[0].Kids[1].Tokens[1] = word("x")
	got[0].Kids[0] = note("y")
	_ = append(got[0].Kids, note("z"))
	if !alike(got[1:], want[1:]) || !alike(lines, before) {
		t.Errorf("%v, %v", got, lines)
	}
	if again, e := Number(lines); !alike(again, want) || e != api.OK {
		t.Errorf("%v, %d", again, e)
	}
}

func TestSame(t *testing.T) {
	trees := [][]api.Line{
		nil, tree(line()), tree(note("a")), tree(head("a")), tree(line(text("a"))), tree(line(sign("a"))), tree(line(number(1))), tree(words(2)), tree(note("a"), note("a")), tree(head("a", note("a"))), tree(head("a", note("b"))), tree(head("a", note("a"), note("b"))), tree(head("a", note("a")), note("b")), within(3, note("a")), within(300, note("a")), multiplied(3), multiplied(1000),
	}
	for i, a := range trees {
		for j, b := range trees {
			if got := Same(a, b); got != (i == j) {
				t.Errorf("%d and %d: %v", i, j, got)
			}
		}
	}
	a, b := mustParse(t, "a (b):\n  c 1"), mustParse(t, "# x\na ( b ) :\n\n  c   1 # y")
	if !Same(a, b) || !Same(nil, []api.Line{}) || !Same(knot(), knot()) {
		t.Error("trees that are the same differ")
	}
}

func TestRowsErrors(t *testing.T) {
	part := strings.Repeat(strings.Repeat("w", 39)+"<", 11) + strings.Repeat("v", 7) // 23 tokens of 447 bytes
	wide := part + "<" + part + "<" + strings.Repeat("u", 40) + "+"                  // 50 tokens of 937 bytes, and a blank behind each
	for _, c := range []struct {
		source string
		want   api.Errno
	}{
		{"note\n  stone a", api.ErrSyntax},
		{"a \"\"", api.ErrName},
		{"a 1000000000000001", api.ErrRange},
		{strings.Repeat("a ", 65), api.ErrTooMany},
		{strings.Repeat("#", api.MaxSource), api.ErrTooMany}, // a line is too long
		{strings.Repeat("#\n", api.MaxSource/2), api.OK},
		{strings.Repeat("#\n", api.MaxSource/2) + "\n", api.ErrTooMany},
		{wide + strings.Repeat("s", 13), api.OK},
		{wide + strings.Repeat("s", 14), api.ErrTooMany},
		{strings.Repeat("a<b\n", 10922) + "abc", api.OK}, // 6 * 10922 + 4 bytes
		{strings.Repeat("a<b\n", 10922) + "abcd", api.ErrTooMany},
		// Of several errors the first one counts.
		{strings.Repeat("a<b\n", 10923) + "!", api.ErrSyntax},
		{"a \"\"\n" + strings.Repeat("a<b\n", 10923), api.ErrName},
	} {
		rows, e := Rows(c.source)
		if e != c.want || e != api.OK && rows != nil {
			t.Errorf("%.60q: %d rows, %d, want %d", c.source, len(rows), e, c.want)
		}
	}
	if rows, _ := Rows(wide + strings.Repeat("s", 13)); len(rows) != 1 || len(rows[0]) != lexer.MaxLine {
		t.Errorf("%q", rows)
	}
}

// drawToken returns a token that is possible.
func drawToken(next func(below int) int) api.Token {
	switch next(7) {
	case 0:
		return number(int64(next(300)) - 150)
	case 1:
		return text([]string{"a b", "(", ")", ",", ":", "# c"}[next(6)])
	case 2:
		return word([]string{"bed", "Z_", "wall9"}[next(3)])
	}
	return sign("(),=:<>+/(),"[next(12):][:1])
}

// drawTree returns a tree with so many levels at most.
func drawTree(next func(below int) int, levels int) []api.Line {
	var lines []api.Line
	for range next(4) {
		l := api.Line{At: next(9) - 4}
		for range 1 + next(6) {
			l.Tokens = append(l.Tokens, drawToken(next))
		}
		if next(2) == 0 || l.Tokens[len(l.Tokens)-1] == sign(":") {
			l.Heading = true
			if levels > 1 {
				l.Kids = drawTree(next, levels-1)
			}
		}
		lines = append(lines, l)
	}
	return lines
}

func TestDrawnTrees(t *testing.T) {
	next := draw(1)
	for range 3000 {
		lines := drawTree(next, 7)
		checkTree(t, lines, modelPrint(lines, 0))
		if t.Failed() {
			return
		}
	}
}

func FuzzRows(f *testing.F) {
	for _, c := range canonical {
		f.Add(c.source)
	}
	f.Fuzz(func(t *testing.T, source string) {
		lines, fault := parser.Parse(source)
		rows, e := Rows(source)
		want := modelPrint(lines, 0)
		wide := func(row string) bool { return len(row) > lexer.MaxLine }
		switch {
		case fault.Code != api.OK:
			if rows != nil || e != fault.Code {
				t.Errorf("%q, %d, want %v", rows, e, fault)
			}
		case len(want) > api.MaxSource || slices.ContainsFunc(strings.Split(want, "\n"), wide):
			checkError(t, lines, api.ErrTooMany)
		default:
			checkTree(t, lines, want)
		}
	})
}
