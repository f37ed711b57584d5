package parser

import (
	"slices"
	"strings"
	"testing"

	"gangsaw/api"
	"gangsaw/lexer"
)

func TestShapeExamples(t *testing.T) {
	l := mustParse(t, "stone a 100")[0]
	for _, c := range []struct {
		pattern []string
		want    api.Fault
	}{
		{[]string{"stone", "NAME", "NUMBER"}, api.Fault{}},
		{[]string{"stone", "NAME"}, api.Fault{Code: api.ErrSyntax, Line: 1, Col: 9}},
		{[]string{"stone", "NAME", "NUMBER", "NUMBER"}, api.Fault{Code: api.ErrSyntax, Line: 1, Col: 9}},
		{[]string{"stone", "NAME", "NUMBER+"}, api.Fault{}},
	} {
		if f := Shape(l, c.pattern); f != c.want {
			t.Errorf("%q: %v, want %v", c.pattern, f, c.want)
		}
	}
	if f := Shape(mustParse(t, "stone A")[0], []string{"stone", "NAME"}); f != (api.Fault{Code: api.ErrName, Line: 1, Col: 7}) {
		t.Error(f)
	}
}

// shapes are tokens, written with blanks between them, with patterns, and the code and the number (from 0) of the token of the fault.
var shapes = []struct {
	tokens, pattern string
	code            api.Errno
	token           int
}{
	{"a", "WORD", api.OK, 0},
	{"A_9", "WORD", api.OK, 0},
	{"5", "WORD", api.ErrSyntax, 0},
	{"\"a\"", "WORD", api.ErrSyntax, 0},
	{"(", "WORD", api.ErrSyntax, 0},
	{"a", "NAME", api.OK, 0},
	{"A", "NAME", api.ErrName, 0},
	{"5", "NAME", api.ErrSyntax, 0},
	{"\"a\"", "NAME", api.ErrSyntax, 0},
	{strings.Repeat("n", 24), "NAME", api.OK, 0},
	{strings.Repeat("n", 25), "NAME", api.ErrName, 0},
	{strings.Repeat("n", 25), "WORD", api.OK, 0},
	{"-5", "NUMBER", api.OK, 0},
	{"a", "NUMBER", api.ErrSyntax, 0},
	{"\"5\"", "NUMBER", api.ErrSyntax, 0},
	{"+", "NUMBER", api.ErrSyntax, 0},
	{"\"a\"", "TEXT", api.OK, 0},
	{"a", "TEXT", api.ErrSyntax, 0},
	{"5", "TEXT", api.ErrSyntax, 0},
	{"(", "TEXT", api.ErrSyntax, 0},
	{"a", "ANY", api.OK, 0},
	{"A", "ANY", api.OK, 0},
	{"5", "ANY", api.OK, 0},
	{"\"a\"", "ANY", api.OK, 0},
	{":", "ANY", api.OK, 0},
	{"(", "(", api.OK, 0},
	{")", "(", api.ErrSyntax, 0},
	{"\"(\"", "(", api.ErrSyntax, 0},
	{"+", "+", api.OK, 0},
	{"a", "+", api.ErrSyntax, 0},
	{"a", "*", api.ErrSyntax, 0},
	{"5", "5", api.ErrSyntax, 0},
	{"\"a\"", "a", api.ErrSyntax, 0},
	{"bed", "bed", api.OK, 0},
	{"bed", "Bed", api.ErrSyntax, 0},
	{"bed", "be", api.ErrSyntax, 0},
	{"WORD", "WORD", api.OK, 0},
	{"word", "word", api.OK, 0},
	{"x", "word", api.ErrSyntax, 0},
	{"any", "any", api.OK, 0},
	{"x", "any", api.ErrSyntax, 0},
	{"Name", "name", api.ErrSyntax, 0},
	{"NAME", "NAME", api.ErrName, 0},
	// Fewer and more tokens.
	{"", "", api.OK, 0},
	{"a", "", api.ErrSyntax, 0},
	{"a b", "", api.ErrSyntax, 0},
	{"", "WORD", api.ErrSyntax, 0},
	{"a", "WORD WORD", api.ErrSyntax, 1},
	{"a", "WORD WORD WORD", api.ErrSyntax, 1},
	{"a b", "WORD", api.ErrSyntax, 1},
	{"a b c", "WORD", api.ErrSyntax, 1},
	{"a 5 c", "WORD NUMBER", api.ErrSyntax, 2},
	{"a 5", "WORD NUMBER WORD", api.ErrSyntax, 2},
	{"( a )", "( NAME )", api.OK, 0},
	{"( a", "( NAME )", api.ErrSyntax, 2},
	{"( )", "( NAME )", api.ErrSyntax, 1},
	{"a , b", "ANY ANY", api.ErrSyntax, 2},
	// Patterns with * and +.
	{"", "WORD*", api.OK, 0},
	{"a", "WORD*", api.OK, 0},
	{"a B c", "WORD*", api.OK, 0},
	{"a 5 c", "WORD*", api.ErrSyntax, 1},
	{"", "WORD+", api.ErrSyntax, 0},
	{"a", "WORD+", api.OK, 0},
	{"a B c", "WORD+", api.OK, 0},
	{"a b 5", "WORD+", api.ErrSyntax, 2},
	{"bed", "bed NUMBER*", api.OK, 0},
	{"bed 1 2 3", "bed NUMBER*", api.OK, 0},
	{"bed 1 x 3", "bed NUMBER*", api.ErrSyntax, 2},
	{"x 1 2", "bed NUMBER*", api.ErrSyntax, 0},
	{"", "bed NUMBER*", api.ErrSyntax, 0},
	{"bed", "bed NUMBER+", api.ErrSyntax, 1},
	{"bed 1", "bed NUMBER+", api.OK, 0},
	{"bed 1 2 a", "bed NUMBER+", api.ErrSyntax, 3},
	{"bed", "bed NAME NUMBER*", api.ErrSyntax, 1},
	{"bed a", "bed NAME NUMBER*", api.OK, 0},
	{"bed a", "bed NAME NUMBER+", api.ErrSyntax, 2},
	{"a b c", "NAME*", api.OK, 0},
	{"a B c", "NAME*", api.ErrName, 1},
	{"a B c", "NAME+", api.ErrName, 1},
	{"A", "NAME+", api.ErrName, 0},
	{"", "NAME*", api.OK, 0},
	{"1 a (", "ANY*", api.OK, 0},
	{"1 a (", "ANY+", api.OK, 0},
	{"\"a\" \"b\"", "TEXT+", api.OK, 0},
	{"", "ANY+", api.ErrSyntax, 0},
	{"", "+", api.ErrSyntax, 0},
	{"+ + +", "++", api.OK, 0},
	{"", "++", api.ErrSyntax, 0},
	{"", "+*", api.OK, 0},
	{"+ +", "+*", api.OK, 0},
	{"+ a", "+*", api.ErrSyntax, 1},
	{", , ,", ",*", api.OK, 0},
	{"a a b", "a+", api.ErrSyntax, 2},
	{"a a", "a*", api.OK, 0},
	{"+ +", "+ +", api.OK, 0},
	{"a", "a* b", api.ErrSyntax, 0},
	{"b", "a* b", api.ErrSyntax, 0},
	{"a b", "WORD+ b", api.ErrSyntax, 0},
	{"a", "a+*", api.ErrSyntax, 0},
	{"", "a+*", api.OK, 0},
	{"", "a*+", api.ErrSyntax, 0},
	// Of two faults the one of the first token counts.
	{"A 5", "NAME NAME", api.ErrName, 0},
	{"5 A", "NAME NAME", api.ErrSyntax, 0},
	{"A", "NAME NAME", api.ErrName, 0},
	{"A b", "NAME", api.ErrName, 0},
	{"a B", "NAME", api.ErrSyntax, 1},
	{"a B", "NAME NAME NUMBER", api.ErrName, 1},
	{"A B", "NAME NAME", api.ErrName, 0},
	{"x A", "bed NAME", api.ErrSyntax, 0},
	{"A 5 B", "NAME+", api.ErrName, 0},
	{"a 5 B", "NAME+", api.ErrSyntax, 1},
}

// tokensOf returns a line of the tokens of a text, at the columns 10, 20 and so on.
func tokensOf(t *testing.T, s string) api.Line {
	t.Helper()
	scanned, f := lexer.Scan(strings.TrimLeft(s+" x", " "))
	if f.Code != api.OK {
		t.Fatalf("%q: %v", s, f)
	}
	return columns(scanned.Tokens[:len(scanned.Tokens)-1]...)
}

func TestShapeKnownPatterns(t *testing.T) {
	for _, c := range shapes {
		l := tokensOf(t, c.tokens)
		want := api.Fault{}
		if c.code != api.OK {
			want = api.Fault{Code: c.code, Line: 7, Col: max(1, 10*min(c.token+1, len(l.Tokens)))}
		}
		for _, heading := range []bool{false, true} {
			l.Heading = heading
			if f := Shape(l, strings.Fields(c.pattern)); f != want {
				t.Errorf("%s as %s: %v, want %v", c.tokens, c.pattern, f, want)
			}
		}
	}
}

func TestShapeOfOddArguments(t *testing.T) {
	for _, c := range []struct {
		l       api.Line
		pattern []string
		want    api.Fault
	}{
		{columns(), nil, api.Fault{}},
		{columns(), []string{}, api.Fault{}},
		{columns(), []string{""}, api.Fault{Code: api.ErrSyntax, Line: 7, Col: 1}},
		{columns(word("")), []string{""}, api.Fault{}},
		{columns(sign("")), []string{""}, api.Fault{}},
		{columns(text("")), []string{""}, api.Fault{Code: api.ErrSyntax, Line: 7, Col: 10}},
		{columns(word("*")), []string{"*"}, api.Fault{}},
		{columns(word("a*"), word("b")), []string{"a*", "b"}, api.Fault{}},
		{columns(word("\xff"), word("\xff")), []string{"\xff*"}, api.Fault{}},
		{columns(sign("\u00e4"), sign("\u00e4")), []string{"\u00e4+"}, api.Fault{}},
		{columns(word("a\x00")), []string{"a\x00"}, api.Fault{}},
		{columns(api.Token{Kind: 9, Text: "a"}), []string{"a"}, api.Fault{Code: api.ErrSyntax, Line: 7, Col: 10}},
		{columns(api.Token{Kind: 9, Text: "a"}), []string{"ANY"}, api.Fault{}},
		{columns(api.Token{}), []string{"WORD"}, api.Fault{Code: api.ErrSyntax, Line: 7, Col: 10}},
		{columns(api.Token{}), []string{"x"}, api.Fault{Code: api.ErrSyntax, Line: 7, Col: 10}},
		{api.Line{Tokens: slices.Repeat([]api.Token{number(1)}, 1000)}, []string{"NUMBER+"}, api.Fault{}},
	} {
		if f := Shape(c.l, c.pattern); f != c.want {
			t.Errorf("%v as %q: %v, want %v", c.l, c.pattern, f, c.want)
		}
	}
}

// modelShape writes a pattern with a mark out for as many tokens as there are, or as there must be, and looks for the first token that lacks, is too much, or does not fit, and for the first bad name.
func modelShape(l api.Line, pattern []string) api.Fault {
	forms := slices.Clone(pattern)
	if n := len(pattern); n > 0 && len(pattern[n-1]) > 1 {
		form := pattern[n-1]
		switch form[len(form)-1] {
		case '*':
			forms = forms[:n-1]
			for len(forms) < len(l.Tokens) {
				forms = append(forms, form[:len(form)-1])
			}
		case '+':
			forms[n-1] = form[:len(form)-1]
			for len(forms) < len(l.Tokens) {
				forms = append(forms, form[:len(form)-1])
			}
		}
	}
	syntax, name := -1, -1
	for i := range max(len(forms), len(l.Tokens)) {
		fits := i < len(forms) && i < len(l.Tokens)
		if fits {
			switch form, k := forms[i], l.Tokens[i]; form {
			case "ANY":
			case "WORD", "NAME":
				fits = k.Kind == api.TokWord
				if form == "NAME" && fits && !lexer.Name(k.Text) && name < 0 {
					name = i
				}
			case "NUMBER":
				fits = k.Kind == api.TokNumber
			case "TEXT":
				fits = k.Kind == api.TokText
			default:
				fits = (k.Kind == api.TokWord || k.Kind == api.TokSign) && k.Text == form
			}
		}
		if !fits && syntax < 0 {
			syntax = i
		}
	}
	switch {
	case name >= 0 && (syntax < 0 || name < syntax):
		return Bad(api.ErrName, l, name)
	case syntax >= 0:
		return Bad(api.ErrSyntax, l, syntax)
	}
	return api.Fault{}
}

func TestShapeOfAllShortLines(t *testing.T) {
	tokens := []api.Token{word("a"), word("B"), number(1), text("a"), sign("+")}
	strs := []string{"WORD", "NAME", "NUMBER", "ANY", "a", "+", "NAME*", "NUMBER+", "a*", "++"}
	var patterns [][]string
	for _, s := range strs {
		patterns = append(patterns, []string{s})
		for _, r := range strs {
			patterns = append(patterns, []string{s, r})
			for _, q := range strs {
				patterns = append(patterns, []string{s, r, q})
			}
		}
	}
	for n := range 5 * 5 * 5 * 5 {
		l := columns(tokens[n%5], tokens[n/5%5], tokens[n/25%5], tokens[n/125])
		for length := range 5 {
			short := l
			short.Tokens = l.Tokens[:length]
			for _, pattern := range patterns {
				if got, want := Shape(short, pattern), modelShape(short, pattern); got != want {
					t.Fatalf("%v as %q: %v, want %v", short, pattern, got, want)
				}
			}
		}
	}
}
