package lexer

import (
	"math"
	"reflect"
	"regexp"
	"slices"
	"strconv"
	"strings"
	"testing"

	"gangsaw/api"
)

func word(s string, at int) api.Token { return api.Token{Kind: api.TokWord, Text: s, At: at} }

func number(n int64, at int) api.Token { return api.Token{Kind: api.TokNumber, N: n, At: at} }

func text(s string, at int) api.Token { return api.Token{Kind: api.TokText, Text: s, At: at} }

func sign(s string, at int) api.Token { return api.Token{Kind: api.TokSign, Text: s, At: at} }

func toks(list ...api.Token) []api.Token { return list }

// draw returns numbers that look random and are the same in every run.
func draw(seed uint64) func(below int) int {
	return func(below int) int {
		seed = seed*6364136223846793005 + 1442695040888963407
		return int(seed>>33) % below
	}
}

// same compares all that a line has; nil and empty lists are the same.
func same(a, b Scanned) bool {
	return a.Indent == b.Indent && a.Heading == b.Heading && a.Comment == b.Comment && slices.Equal(a.Tokens, b.Tokens)
}

// empty reports whether nothing is in a result.
func empty(s Scanned) bool { return s.Tokens == nil && same(s, Scanned{}) }

func TestConstants(t *testing.T) {
	if MaxLine != 1000 || MaxTokens != 64 || MaxNumber != 1000000000000000 {
		t.Error(MaxLine, MaxTokens, MaxNumber)
	}
}

// lines are lines with what they have. The first ones are the examples of the chapter.
var lines = []struct {
	line string
	want Scanned
}{
	{"  bed = upper, -120  # seen", Scanned{Indent: 1, Tokens: toks(word("bed", 3), sign("=", 7), word("upper", 9), sign(",", 14), number(-120, 16)), Comment: " seen"}},
	{"wall south:", Scanned{Tokens: toks(word("wall", 1), word("south", 6)), Heading: true}},
	{"", Scanned{}},
	{"#", Scanned{}},
	{" ", Scanned{}},
	{"   ", Scanned{}},
	{"             ", Scanned{}},
	{"   # c", Scanned{Comment: " c"}},
	{"#c#d ", Scanned{Comment: "c#d "}},
	{"               #\"", Scanned{Comment: "\""}},
	{"#\x00\n\xff", Scanned{Comment: "\x00\n\xff"}},
	{"a", Scanned{Tokens: toks(word("a", 1))}},
	{"a ", Scanned{Tokens: toks(word("a", 1))}},
	{"a#", Scanned{Tokens: toks(word("a", 1))}},
	{"a#b", Scanned{Tokens: toks(word("a", 1)), Comment: "b"}},
	{"a # b # c", Scanned{Tokens: toks(word("a", 1)), Comment: " b # c"}},
	{"Zz_9z", Scanned{Tokens: toks(word("Zz_9z", 1))}},
	{"            z", Scanned{Indent: 6, Tokens: toks(word("z", 13))}},
	{"          z", Scanned{Indent: 5, Tokens: toks(word("z", 11))}},
	{"0", Scanned{Tokens: toks(number(0, 1))}},
	{"0#", Scanned{Tokens: toks(number(0, 1))}},
	{"-7", Scanned{Tokens: toks(number(-7, 1))}},
	{"10 -10", Scanned{Tokens: toks(number(10, 1), number(-10, 4))}},
	{"1000000000000000", Scanned{Tokens: toks(number(MaxNumber, 1))}},
	{"-1000000000000000", Scanned{Tokens: toks(number(-MaxNumber, 1))}},
	{"1-2-3", Scanned{Tokens: toks(number(1, 1), number(-2, 2), number(-3, 4))}},
	{"+1", Scanned{Tokens: toks(sign("+", 1), number(1, 2))}},
	{"0+0", Scanned{Tokens: toks(number(0, 1), sign("+", 2), number(0, 3))}},
	{"a-1", Scanned{Tokens: toks(word("a", 1), number(-1, 2))}},
	{"1\"a\"2", Scanned{Tokens: toks(number(1, 1), text("a", 2), number(2, 5))}},
	{"a\"b\"c", Scanned{Tokens: toks(word("a", 1), text("b", 2), word("c", 5))}},
	{"\"a\"\"b\"", Scanned{Tokens: toks(text("a", 1), text("b", 4))}},
	{"\"a # b\" # c", Scanned{Tokens: toks(text("a # b", 1)), Comment: " c"}},
	{"\"#\"#\"", Scanned{Tokens: toks(text("#", 1)), Comment: "\""}},
	{"\"-0: !~\"", Scanned{Tokens: toks(text("-0: !~", 1))}},
	{"(),=<>+/:a", Scanned{Tokens: toks(sign("(", 1), sign(")", 2), sign(",", 3), sign("=", 4), sign("<", 5), sign(">", 6), sign("+", 7), sign("/", 8), sign(":", 9), word("a", 10))}},
	{"a:", Scanned{Tokens: toks(word("a", 1)), Heading: true}},
	{"  1 :", Scanned{Indent: 1, Tokens: toks(number(1, 3)), Heading: true}},
	{"\"a\": #:", Scanned{Tokens: toks(text("a", 1)), Heading: true, Comment: ":"}},
	{"(:", Scanned{Tokens: toks(sign("(", 1)), Heading: true}},
	{"::", Scanned{Tokens: toks(sign(":", 1)), Heading: true}},
	{": :", Scanned{Tokens: toks(sign(":", 1)), Heading: true}},
	{"a::", Scanned{Tokens: toks(word("a", 1), sign(":", 2)), Heading: true}},
	{":::", Scanned{Tokens: toks(sign(":", 1), sign(":", 2)), Heading: true}},
	{"a : b", Scanned{Tokens: toks(word("a", 1), sign(":", 3), word("b", 5))}},
	{":a", Scanned{Tokens: toks(sign(":", 1), word("a", 2))}},
	{"a \":\"", Scanned{Tokens: toks(word("a", 1), text(":", 3))}},
	{"a <", Scanned{Tokens: toks(word("a", 1), sign("<", 3))}},
	{"a )", Scanned{Tokens: toks(word("a", 1), sign(")", 3))}},
}

func TestScanKnownLines(t *testing.T) {
	for _, c := range lines {
		if got, f := Scan(c.line); !same(got, c.want) || f != (api.Fault{}) {
			t.Errorf("%q: %v, %v, want %v", c.line, got, f, c.want)
		}
	}
}

// faults are lines with their first faults. The first ones are the examples of the chapter.
var faults = []struct {
	line string
	code api.Errno
	col  int
}{
	{":", api.ErrSyntax, 1},
	{"007", api.ErrSyntax, 1},
	{"12a", api.ErrSyntax, 1},
	{"-0", api.ErrSyntax, 1},
	{"\"a", api.ErrSyntax, 1},
	{"\"\"", api.ErrName, 1},
	{"  : # c", api.ErrSyntax, 3},
	{"00", api.ErrSyntax, 1},
	{"-00", api.ErrSyntax, 1},
	{"-07", api.ErrSyntax, 1},
	{"-", api.ErrSyntax, 1},
	{"--1", api.ErrSyntax, 1},
	{"- 1", api.ErrSyntax, 1},
	{"a -", api.ErrSyntax, 3},
	{"-a", api.ErrSyntax, 1},
	{"1_", api.ErrSyntax, 1},
	{"1A", api.ErrSyntax, 1},
	{"1Z", api.ErrSyntax, 1},
	{"1z", api.ErrSyntax, 1},
	{"0x", api.ErrSyntax, 1},
	{"-5_", api.ErrSyntax, 1},
	{"_", api.ErrSyntax, 1},
	{"_a", api.ErrSyntax, 1},
	{"a !", api.ErrSyntax, 3},
	{"a;b", api.ErrSyntax, 2},
	{"a\tb", api.ErrSyntax, 2},
	{"\ta", api.ErrSyntax, 1},
	{"a\n", api.ErrSyntax, 2},
	{"\n", api.ErrSyntax, 1},
	{"a\r", api.ErrSyntax, 2},
	{"a\x00", api.ErrSyntax, 2},
	{"\xc3\xa4", api.ErrSyntax, 1},
	{"a\x7f", api.ErrSyntax, 2},
	{"1\xff", api.ErrSyntax, 2},
	{"a.", api.ErrSyntax, 2},
	{"a*", api.ErrSyntax, 2},
	{"a[", api.ErrSyntax, 2},
	{"a@", api.ErrSyntax, 2},
	{"a`", api.ErrSyntax, 2},
	{"a{", api.ErrSyntax, 2},
	{"a'b'", api.ErrSyntax, 2},
	{"1000000000000001", api.ErrRange, 1},
	{"a -1000000000000001", api.ErrRange, 3},
	{"9223372036854775808", api.ErrRange, 1},
	{"18446744073709551617", api.ErrRange, 1},
	{"1000000000000001a", api.ErrSyntax, 1},
	{"01000000000000001", api.ErrSyntax, 1},
	{"a \" b\"", api.ErrName, 3},
	{"a \"b \"", api.ErrName, 3},
	{"\" \"", api.ErrName, 1},
	{"\"a\tb\"", api.ErrName, 1},
	{"\"\x1f\"", api.ErrName, 1},
	{"\"\x7f\"", api.ErrName, 1},
	{"\"\xe4\"", api.ErrName, 1},
	{"\"a#b", api.ErrSyntax, 1},
	{"a \"", api.ErrSyntax, 3},
	{"a #\"\n", api.OK, 0},
	{"\"a\"\"", api.ErrSyntax, 4},
	{" a", api.ErrSyntax, 2},
	{"   a:", api.ErrSyntax, 4},
	{"             a", api.ErrSyntax, 14},
	{"              a", api.ErrTooMany, 15},
	{"                  a", api.ErrTooMany, 19},
	{"               a", api.ErrSyntax, 16},
	// Of several faults the first one counts.
	{" !", api.ErrSyntax, 2},
	{"              !", api.ErrTooMany, 15},
	{"              :", api.ErrTooMany, 15},
	{" :", api.ErrSyntax, 2},
	{"\"\" !", api.ErrName, 1},
	{"! \"\"", api.ErrSyntax, 1},
	{"007 1000000000000001", api.ErrSyntax, 1},
	{"1000000000000001 007", api.ErrRange, 1},
	{"\" a", api.ErrSyntax, 1},
	{": !", api.ErrSyntax, 3},
	{": 01", api.ErrSyntax, 3},
	{": \"\"", api.ErrName, 3},
}

func TestScanKnownFaults(t *testing.T) {
	for _, c := range faults {
		got, f := Scan(c.line)
		if f != (api.Fault{Code: c.code, Col: c.col}) || c.code != api.OK && !empty(got) {
			t.Errorf("%q: %v, %v, want %d at %d", c.line, got, f, c.code, c.col)
		}
	}
}

func TestScanLongLines(t *testing.T) {
	for _, c := range []struct {
		line string
		code api.Errno
		col  int
	}{
		{strings.Repeat(" ", MaxLine), api.OK, 0},
		{strings.Repeat(" ", MaxLine+1), api.ErrTooMany, MaxLine + 1},
		{"a" + strings.Repeat(" ", MaxLine-1), api.OK, 0},
		{"a" + strings.Repeat(" ", MaxLine), api.ErrTooMany, MaxLine + 1},
		{"a #" + strings.Repeat("x", MaxLine-3), api.OK, 0},
		{"a #" + strings.Repeat("x", MaxLine-2), api.ErrTooMany, MaxLine + 1},
		{"#" + strings.Repeat("\xff", MaxLine-1), api.OK, 0},
		{"#" + strings.Repeat("\xff", MaxLine), api.ErrTooMany, MaxLine + 1},
		{"!" + strings.Repeat("x", 3*MaxLine), api.ErrTooMany, MaxLine + 1},
		{" a" + strings.Repeat(" ", MaxLine), api.ErrTooMany, MaxLine + 1},
		{"a" + strings.Repeat(" ", MaxLine-2) + "!", api.ErrSyntax, MaxLine},
		{strings.Repeat("9", MaxLine), api.ErrRange, 1},
		{strings.Repeat("x", MaxLine), api.ErrName, 1},
		{"\"" + strings.Repeat("x", MaxLine-1), api.ErrSyntax, 1},
		{"\"" + strings.Repeat("x", MaxLine-2) + "\"", api.ErrName, 1},
	} {
		if _, f := Scan(c.line); f != (api.Fault{Code: c.code, Col: c.col}) {
			t.Errorf("%d bytes, %.20q: %v, want %d at %d", len(c.line), c.line, f, c.code, c.col)
		}
	}
}

func TestScanLongTokens(t *testing.T) {
	long := strings.Repeat("x", api.MaxLabel)
	for _, line := range []string{long, "\"" + long + "\"", long + "(\"" + long + "\""} {
		if got, f := Scan(line); f != (api.Fault{}) || len(got.Tokens) == 0 || got.Tokens[0].Text != long {
			t.Errorf("%q: %v, %v", line, got, f)
		}
	}
	for _, line := range []string{"a " + long + "x", "a " + long + "_", "a " + long + "9", "a \"" + long + "x\"", "1 \"x" + long + "\" !"} {
		if got, f := Scan(line); f != (api.Fault{Code: api.ErrName, Col: 3}) || !empty(got) {
			t.Errorf("%q: %v, %v", line, got, f)
		}
	}
}

func TestScanManyTokens(t *testing.T) {
	full := strings.Repeat("a ", MaxTokens)
	for _, c := range []struct {
		line    string
		code    api.Errno
		col     int
		tokens  int
		heading bool
	}{
		{full, api.OK, 0, MaxTokens, false},
		{full + " # a b c", api.OK, 0, MaxTokens, false},
		{full[2:] + ":", api.OK, 0, MaxTokens - 1, true},
		{full[2:] + "::", api.ErrTooMany, 2*MaxTokens - 1 + 1, 0, false},
		{full[4:] + "::", api.OK, 0, MaxTokens - 1, true},
		{full + ":", api.ErrTooMany, 2*MaxTokens + 1, 0, false},
		{full + "  a", api.ErrTooMany, 2*MaxTokens + 3, 0, false},
		{full + "!", api.ErrTooMany, 2*MaxTokens + 1, 0, false},
		{full + "\"", api.ErrTooMany, 2*MaxTokens + 1, 0, false},
		{full + "01", api.ErrTooMany, 2*MaxTokens + 1, 0, false},
		{full + "9999999999999999", api.ErrTooMany, 2*MaxTokens + 1, 0, false},
		{full + "\"\"", api.ErrTooMany, 2*MaxTokens + 1, 0, false},
		{full[2:] + "!", api.ErrSyntax, 2*MaxTokens - 1, 0, false},
		{full[2:] + "! a", api.ErrSyntax, 2*MaxTokens - 1, 0, false},
		{strings.Repeat("(", MaxTokens), api.OK, 0, MaxTokens, false},
		{strings.Repeat("(", MaxTokens+1), api.ErrTooMany, MaxTokens + 1, 0, false},
		{strings.Repeat(":", MaxTokens), api.OK, 0, MaxTokens - 1, true},
		{strings.Repeat(":", MaxTokens+1), api.ErrTooMany, MaxTokens + 1, 0, false},
	} {
		got, f := Scan(c.line)
		if f != (api.Fault{Code: c.code, Col: c.col}) || len(got.Tokens) != c.tokens || got.Heading != c.heading || c.code != api.OK && !empty(got) {
			t.Errorf("%q: %d tokens, %v, want %d at %d", c.line, len(got.Tokens), f, c.code, c.col)
		}
	}
}

var (
	wordForm   = regexp.MustCompile(`^[A-Za-z][A-Za-z0-9_]*`)
	numberForm = regexp.MustCompile(`^-?[0-9]+`)
	goodNumber = regexp.MustCompile(`^(0|-?[1-9][0-9]*)$`)
	textForm   = regexp.MustCompile(`^"[^"]*"`)
	signForm   = regexp.MustCompile(`^[(),=:<>+/]`)
	nameForm   = regexp.MustCompile(`^[a-z][a-z0-9_]{0,23}$`)
	labelForm  = regexp.MustCompile(`^[!#-~]([ !#-~]{0,38}[!#-~])?$`)
)

// modelToken reads the token at the begin of a string by the forms of the chapter.
func modelToken(s string) (api.Token, string, api.Errno) {
	if m := wordForm.FindString(s); m != "" {
		if len(m) > 40 {
			return api.Token{}, "", api.ErrName
		}
		return word(m, 0), m, api.OK
	}
	if m := numberForm.FindString(s); m != "" {
		next := s[len(m):]
		if !goodNumber.MatchString(m) || wordForm.MatchString(next) || strings.HasPrefix(next, "_") {
			return api.Token{}, "", api.ErrSyntax
		}
		n, err := strconv.ParseInt(m, 10, 64)
		if err != nil || n > 1e15 || n < -1e15 {
			return api.Token{}, "", api.ErrRange
		}
		return number(n, 0), m, api.OK
	}
	if m := textForm.FindString(s); m != "" {
		if !labelForm.MatchString(m[1 : len(m)-1]) {
			return api.Token{}, "", api.ErrName
		}
		return text(m[1:len(m)-1], 0), m, api.OK
	}
	if m := signForm.FindString(s); m != "" {
		return sign(m, 0), m, api.OK
	}
	return api.Token{}, "", api.ErrSyntax
}

// modelScan reads a line that is not too long by the definitions, one after the other.
func modelScan(line string) (Scanned, api.Fault) {
	rest := strings.TrimLeft(line, " ")
	front := len(line) - len(rest)
	if rest == "" || rest[0] == '#' {
		return Scanned{Comment: strings.TrimPrefix(rest, "#")}, api.Fault{}
	}
	if front%2 == 1 {
		return Scanned{}, api.Fault{Code: api.ErrSyntax, Col: front + 1}
	}
	if front > 12 {
		return Scanned{}, api.Fault{Code: api.ErrTooMany, Col: front + 1}
	}
	out := Scanned{Indent: front / 2}
	for rest != "" && rest[0] != '#' {
		col := len(line) - len(rest) + 1
		tok, read, e := modelToken(rest)
		if len(out.Tokens) == 64 {
			e = api.ErrTooMany
		}
		if e != api.OK {
			return Scanned{}, api.Fault{Code: e, Col: col}
		}
		tok.At = col
		out.Tokens = append(out.Tokens, tok)
		rest = strings.TrimLeft(rest[len(read):], " ")
	}
	out.Comment = strings.TrimPrefix(rest, "#")
	if last := out.Tokens[len(out.Tokens)-1]; last.Kind == api.TokSign && last.Text == ":" {
		if len(out.Tokens) == 1 {
			return Scanned{}, api.Fault{Code: api.ErrSyntax, Col: last.At}
		}
		out.Heading, out.Tokens = true, out.Tokens[:len(out.Tokens)-1]
	}
	return out, api.Fault{}
}

func checkScan(t *testing.T, line string) {
	t.Helper()
	got, f := Scan(line)
	if want, g := modelScan(line); !same(got, want) || f != g {
		t.Fatalf("%q: %v, %v, want %v, %v", line, got, f, want, g)
	}
}

func TestScanShortLines(t *testing.T) {
	const bytes = " #\"a_-01:!"
	line := make([]byte, 5)
	for n := range 100000 {
		for i := range line {
			line[i] = bytes[n%10]
			n /= 10
		}
		for length := range len(line) + 1 {
			checkScan(t, string(line[:length]))
		}
	}
	for a := range 256 {
		for b := range 256 {
			checkScan(t, string([]byte{byte(a), byte(b)}))
			checkScan(t, string([]byte{'"', byte(a), byte(b), '"'}))
		}
	}
}

// drawPart returns a part of a line: most are tokens, some are faults.
func drawPart(next func(below int) int) string {
	switch next(12) {
	case 0:
		return strconv.Itoa(next(2000) - 1000)
	case 1:
		return strconv.FormatInt(MaxNumber-1+int64(next(3)), 10)
	case 2:
		return "\"" + strings.Repeat("b #", next(15)) + "b\""
	case 3:
		return strings.Repeat("z", 36+next(6))
	case 4, 5:
		return "(),=:<>+/"[next(9):][:1]
	case 6:
		return "\"" + string(rune(32+next(95))) + "\""
	case 7:
		return strings.Repeat(" ", next(4))
	case 8:
		return []string{"#", "!", "_", "0", "-", "\"", ":"}[next(7)]
	}
	return []string{"a", "Block", "z9_", "bed", "x_"}[next(5)]
}

func TestScanDrawnLines(t *testing.T) {
	next := draw(1)
	for range 30000 {
		line := strings.Repeat("  ", next(8))
		for range next(12) {
			line += drawPart(next) + strings.Repeat(" ", next(2))
		}
		checkScan(t, line)
	}
	for range 5000 {
		line := ""
		for range 60 + next(8) {
			line += []string{"a ", "(", ":", "7 "}[next(4)]
		}
		checkScan(t, line)
	}
}

func TestScanSharesNoMemory(t *testing.T) {
	line := "a b c: # d"
	first, _ := Scan(line)
	clear(first.Tokens[:cap(first.Tokens)])
	if second, f := Scan(line); f.Code != api.OK || !slices.Equal(second.Tokens, toks(word("a", 1), word("b", 3), word("c", 5))) {
		t.Error(second, f)
	}
}

func TestLines(t *testing.T) {
	for _, c := range []struct {
		source string
		want   []string
	}{
		{"", nil},
		{"\n", []string{""}},
		{"\n\n", []string{"", ""}},
		{"a", []string{"a"}},
		{"a\n", []string{"a"}},
		{"a\nb", []string{"a", "b"}},
		{"a\nb\n", []string{"a", "b"}},
		{"a\n\nb", []string{"a", "", "b"}},
		{"\na", []string{"", "a"}},
		{"a\n\n", []string{"a", ""}},
		{"a\n ", []string{"a", " "}},
		{"a\r\nb\r", []string{"a\r", "b\r"}},
		{"\x00\xff\n#", []string{"\x00\xff", "#"}},
	} {
		if got, e := Lines(c.source); !slices.Equal(got, c.want) || e != api.OK {
			t.Errorf("%q: %q, %d", c.source, got, e)
		}
	}
}

func TestLinesOfLongSources(t *testing.T) {
	for _, c := range []struct {
		source string
		want   int
	}{
		{strings.Repeat("\n", api.MaxSource), api.MaxSource},
		{strings.Repeat("x", api.MaxSource), 1},
		{strings.Repeat("x\n", api.MaxSource/2), api.MaxSource / 2},
	} {
		if got, e := Lines(c.source); len(got) != c.want || e != api.OK {
			t.Errorf("%.10q: %d lines, %d", c.source, len(got), e)
		}
		if got, e := Lines(c.source + "\n"); got != nil || e != api.ErrTooMany {
			t.Errorf("%.10q and one byte more: %d lines, %d", c.source, len(got), e)
		}
	}
}

func TestLinesUndoJoin(t *testing.T) {
	next := draw(2)
	for range 2000 {
		rows := make([]string, next(6))
		for i := range rows {
			rows[i] = strings.Repeat("y", next(3))
		}
		source := ""
		for _, row := range rows {
			source += row + "\n"
		}
		if got, e := Lines(source); !slices.Equal(got, rows) || e != api.OK {
			t.Fatalf("%q: %q, %d", source, got, e)
		}
	}
}

func TestNames(t *testing.T) {
	for _, c := range []struct {
		s    string
		want bool
	}{
		{"", false}, {"a", true}, {"z", true}, {"A", false}, {"Z", false}, {"0", false}, {"9", false}, {"_", false},
		{"a0", true}, {"a9", true}, {"a_", true}, {"aA", false}, {"aZ", false}, {"a-", false}, {"a b", false}, {" a", false}, {"a ", false},
		{"a\x00", false}, {"a\xff", false}, {"\xe4", false}, {"a\u00e4", false}, {"a`", false}, {"a{", false}, {"a/", false}, {"a:", false}, {"{", false}, {"`", false},
		{strings.Repeat("a", 24), true}, {strings.Repeat("a", 25), false}, {"b" + strings.Repeat("_", 23), true}, {"b" + strings.Repeat("9", 24), false},
		{strings.Repeat("a", 1<<20), false},
	} {
		if got := Name(c.s); got != c.want {
			t.Errorf("%.50q: %v", c.s, got)
		}
	}
}

func TestLabels(t *testing.T) {
	for _, c := range []struct {
		s    string
		want bool
	}{
		{"", false}, {" ", false}, {"  ", false}, {"!", true}, {"~", true}, {"\"", false}, {"a\"b", false}, {"a b", true}, {" a", false}, {"a ", false},
		{"\x1f", false}, {"\x7f", false}, {"\x00", false}, {"a\x80b", false}, {"a\xffb", false}, {"\u00e4", false}, {"a\tb", false}, {"a\nb", false}, {"#", true}, {"-0 : x", true},
		{strings.Repeat("a", 40), true}, {strings.Repeat("a", 41), false}, {"a" + strings.Repeat(" ", 38) + "a", true}, {"a" + strings.Repeat(" ", 39) + "a", false},
		{strings.Repeat("a", 1<<20), false},
	} {
		if got := Label(c.s); got != c.want {
			t.Errorf("%.50q: %v", c.s, got)
		}
	}
}

func TestNamesAndLabelsOfAllShortStrings(t *testing.T) {
	check := func(s string) {
		if Name(s) != nameForm.MatchString(s) || Label(s) != labelForm.MatchString(s) {
			t.Errorf("%q: %v, %v", s, Name(s), Label(s))
		}
	}
	for a := range 256 {
		check(string([]byte{byte(a)}))
		for b := range 256 {
			check(string([]byte{byte(a), byte(b)}))
			check(string([]byte{'q', byte(a), byte(b), 'q'}))
		}
	}
}

// modelValid looks for a token in a line of its own: what a word, number or sign would be, or a text.
func modelValid(tok api.Token) bool {
	switch tok.Kind {
	case api.TokWord:
		return tok.N == 0 && len(tok.Text) <= 40 && wordForm.FindString(tok.Text) == tok.Text && tok.Text != ""
	case api.TokNumber:
		return tok.Text == "" && tok.N >= -1e15 && tok.N <= 1e15
	case api.TokText:
		return tok.N == 0 && labelForm.MatchString(tok.Text)
	case api.TokSign:
		return tok.N == 0 && len(tok.Text) == 1 && signForm.MatchString(tok.Text)
	}
	return false
}

func TestValidAndSpell(t *testing.T) {
	texts := []string{"", "a", "Z", "_", "a_9", "9", "0", "-1", "-", "(", ")", ",", "=", ":", "<", ">", "+", "/", "((", "!", "#", "a b", "a ", " a", "a#", "a\"b", "\"a\"", "\"", "a\x00", "a\n", "\u00e4", ";", "-0", strings.Repeat("x", 40), strings.Repeat("x", 41)}
	numbers := []int64{0, 1, -1, MaxNumber, MaxNumber + 1, -MaxNumber, -MaxNumber - 1, math.MaxInt64, math.MinInt64}
	valid := 0
	for _, kind := range []int{math.MinInt, -1, 0, 1, 2, 3, 4, 5, math.MaxInt} {
		for _, text := range texts {
			for _, n := range numbers {
				for _, at := range []int{0, 1, -5, math.MaxInt, math.MinInt} {
					tok := api.Token{Kind: kind, Text: text, N: n, At: at}
					want := modelValid(tok)
					if got := Valid(tok); got != want {
						t.Fatalf("%v: Valid is %v", tok, got)
					}
					s, e := Spell(tok)
					if want != (e == api.OK) || !want && (s != "" || e != api.ErrSyntax) {
						t.Fatalf("%v: Spell gives %q, %d", tok, s, e)
					}
					if !want {
						continue
					}
					valid++
					tok.At = 1
					if got, f := Scan(s + " a"); f.Code != api.OK || len(got.Tokens) != 2 || got.Tokens[0] != tok {
						t.Fatalf("%q is read as %v, %v", s, got, f)
					}
				}
			}
		}
	}
	if valid == 0 {
		t.Error("no token is valid")
	}
}

func TestSpellKnownTokens(t *testing.T) {
	for _, c := range []struct {
		tok  api.Token
		want string
	}{
		{word("Upper_1", 0), "Upper_1"}, {number(0, 7), "0"}, {number(-120, 0), "-120"}, {number(MaxNumber, 0), "1000000000000000"}, {number(-MaxNumber, 0), "-1000000000000000"},
		{text("a # b", 0), "\"a # b\""}, {text(":", 0), "\":\""}, {sign(":", -1), ":"}, {sign("/", 0), "/"},
	} {
		if s, e := Spell(c.tok); s != c.want || e != api.OK {
			t.Errorf("%v: %q, %d", c.tok, s, e)
		}
	}
}

// drawToken returns a valid token.
func drawToken(next func(below int) int) api.Token {
	const middle = " !#$%&'()*+,-./0123456789:;<=>?@ABC[\\]^_`abc{|}~"
	switch next(4) {
	case 0:
		return word("aBcZ"[next(4):][:1]+strings.Repeat("0_xY"[next(4):][:1], next(40)), next(100))
	case 1:
		return number([]int64{0, int64(next(1000)) - 500, MaxNumber - int64(next(2)), int64(next(2)) - MaxNumber}[next(4)], 0)
	case 2:
		s := "a"
		for range next(30) {
			s += middle[next(len(middle)):][:1]
		}
		return text(s+"z", 0)
	}
	return sign("(),=:<>+/"[next(9):][:1], 0)
}

func TestScanUndoesSpell(t *testing.T) {
	next := draw(3)
	for range 5000 {
		var spelled []string
		var tokens []api.Token
		for range 1 + next(8) {
			tok := drawToken(next)
			s, e := Spell(tok)
			if e != api.OK {
				t.Fatalf("%v: %d", tok, e)
			}
			spelled, tokens = append(spelled, s), append(tokens, tok)
		}
		heading := tokens[len(tokens)-1].Text == ":" && tokens[len(tokens)-1].Kind == api.TokSign
		if heading {
			tokens = tokens[:len(tokens)-1]
		}
		wide := strings.Join(spelled, strings.Repeat(" ", 2+next(3))) + "  # " + strings.Join(spelled, "#")
		for _, line := range []string{strings.Join(spelled, " "), wide} {
			got, f := Scan(line)
			if len(tokens) == 0 {
				if f != (api.Fault{Code: api.ErrSyntax, Col: 1}) {
					t.Fatalf("%q: %v", line, f)
				}
				continue
			}
			if f != (api.Fault{}) || got.Heading != heading || got.Indent != 0 || len(got.Tokens) != len(tokens) {
				t.Fatalf("%q: %v, %v", line, got, f)
			}
			column := 0
			for i, tok := range got.Tokens {
				if tok.At <= column || line[tok.At-1] != spelled[i][0] {
					t.Fatalf("%q: column %d behind %d", line, tok.At, column)
				}
				column = tok.At
				tok.At = tokens[i].At
				if !reflect.DeepEqual(tok, tokens[i]) {
					t.Fatalf("%q: %v, want %v", line, tok, tokens[i])
				}
			}
		}
	}
}

func FuzzScan(f *testing.F) {
	for _, c := range lines {
		f.Add(c.line)
	}
	f.Fuzz(func(t *testing.T, line string) {
		if len(line) <= MaxLine {
			checkScan(t, line)
		}
	})
}
