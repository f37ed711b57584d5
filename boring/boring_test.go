package boring

import (
	"math"
	"slices"
	"strconv"
	"strings"
	"testing"

	"gangsaw/api"
)

func TestExamples(t *testing.T) {
	b := example()
	for _, c := range []struct{ z, want int }{{-1, api.Unseen}, {0, api.Sound}, {9, api.Sound}, {10, api.Sound}, {19, api.Sound}, {20, api.Unseen}, {24, api.Unseen}, {25, api.Flawed}, {29, api.Flawed}, {30, api.Unseen}} {
		if got := State(b, c.z); got != c.want {
			t.Errorf("at %d it says %d", c.z, got)
		}
	}
	if sum, longest := Seen(b, api.Sound); sum != 20 || longest != 20 {
		t.Errorf("Sound is seen at %d, %d", sum, longest)
	}
	if sum, longest := Seen(b, api.Flawed); sum != 5 || longest != 5 {
		t.Errorf("Flawed is seen at %d, %d", sum, longest)
	}
	if n, e := Normal(b); !same(n, bore("b1", 5, 5, 0, 20, api.Sound, 25, 30, api.Flawed)) || e != api.OK {
		t.Errorf("Normal: %v, %d", n, e)
	}
	list, e := Evidence(b)
	if want := []api.Evidence{{Source: "b1", Box: bx(5, 5, 0, 6, 6, 20), State: api.Sound}, {Source: "b1", Box: bx(5, 5, 25, 6, 6, 30), State: api.Flawed}}; !slices.Equal(list, want) || e != api.OK {
		t.Errorf("Evidence: %v, %d", list, e)
	}
	m, e := Merge(b, bore("b2", 5, 5, 18, 25, api.Sound))
	if !same(m, bore("b1", 5, 5, 0, 25, api.Sound, 25, 30, api.Flawed)) || e != api.OK {
		t.Errorf("Merge: %v, %d", m, e)
	}
	if m, e := Merge(b, bore("b2", 5, 5, 15, 16, api.Flawed)); !isZero(m) || e != api.ErrConflict {
		t.Errorf("Merge: %v, %d", m, e)
	}
	s := api.Survey{Pit: cube(0, 100), Flaws: []api.Flaw{{Name: "f", Prism: api.Prism{Base: api.Polygon{{X: 0, Y: 0}, {X: 10, Y: 0}, {X: 10, Y: 10}, {X: 0, Y: 10}}, Lo: 15, Hi: 40}}}}
	if list, e := Against(b, s); !slices.Equal(list, []Conflict{{Flaw: "f", Lo: 15, Hi: 20}}) || e != api.OK {
		t.Errorf("Against: %v, %d", list, e)
	}
}

// pit is the pit of the borings of checks.
func pit() api.Box { return bx(-10, -20, -30, 90, 80, 70) }

// checks are borings with their error in this pit, and as formed borings.
var checks = []struct {
	name       string
	b          api.Boring
	in, formed api.Errno
}{
	{"the example", example(), api.OK, api.OK},
	{"no logs", bore("a", 0, 0), api.OK, api.OK},
	{"empty logs", api.Boring{Name: "a", Logs: []api.Log{}}, api.OK, api.OK},
	{"no name", bore("", 0, 0), api.ErrName, api.ErrName},
	{"a name in capitals", bore("B", 0, 0), api.ErrName, api.ErrName},
	{"a label", bore("a b", 0, 0), api.ErrName, api.ErrName},
	{"a name of 24 bytes", bore(strings.Repeat("a", 24), 0, 0), api.OK, api.OK},
	{"a name of 25 bytes", bore(strings.Repeat("a", 25), 0, 0), api.ErrName, api.ErrName},
	{"64 logs", many(64), api.OK, api.OK},
	{"65 logs", many(65), api.ErrTooMany, api.ErrTooMany},
	{"a log without z", bore("a", 0, 0, 5, 5, api.Sound), api.ErrInvalid, api.ErrInvalid},
	{"a log upside down", bore("a", 0, 0, 6, 5, api.Sound), api.ErrInvalid, api.ErrInvalid},
	{"the last log without z", bore("a", 0, 0, 5, 6, api.Sound, 7, 8, api.Sound, 9, 9, api.Sound), api.ErrInvalid, api.ErrInvalid},
	{"an unseen log", bore("a", 0, 0, 5, 6, api.Unseen), api.ErrInvalid, api.ErrInvalid},
	{"a clash", bore("a", 0, 0, 5, 6, api.Sound, 6, 7, api.Clash), api.ErrInvalid, api.ErrInvalid},
	{"a state below", bore("a", 0, 0, 5, 6, -1), api.ErrInvalid, api.ErrInvalid},
	{"logs that touch", bore("a", 0, 0, 5, 6, api.Sound, 6, 7, api.Flawed, 7, 8, api.Flawed), api.OK, api.OK},
	{"logs that overlap", bore("a", 0, 0, 5, 7, api.Sound, 6, 8, api.Sound), api.ErrOverlap, api.ErrOverlap},
	{"a log twice", bore("a", 0, 0, 5, 7, api.Sound, 5, 7, api.Sound), api.ErrOverlap, api.ErrOverlap},
	{"logs in the wrong order", bore("a", 0, 0, 5, 7, api.Sound, 3, 4, api.Sound), api.ErrOverlap, api.ErrOverlap},
	{"logs in the wrong order that touch", bore("a", 0, 0, 5, 7, api.Sound, 3, 5, api.Sound), api.ErrOverlap, api.ErrOverlap},
	{"the last logs overlap", bore("a", 0, 0, 1, 2, api.Sound, 5, 7, api.Sound, 6, 8, api.Sound), api.ErrOverlap, api.ErrOverlap},
	{"the last log overlaps the first one only", bore("a", 0, 0, 5, 7, api.Sound, 7, 8, api.Sound, 6, 7, api.Flawed), api.ErrOverlap, api.ErrOverlap},
	{"the whole z of the pit", bore("a", 0, 0, -30, 70, api.Sound), api.OK, api.OK},
	{"from below the pit", bore("a", 0, 0, -31, 70, api.Sound), api.ErrOutside, api.OK},
	{"to above the pit", bore("a", 0, 0, -30, 71, api.Sound), api.ErrOutside, api.OK},
	{"the last log above the pit", bore("a", 0, 0, 0, 1, api.Sound, 70, 71, api.Sound), api.ErrOutside, api.OK},
	{"at the least corner", bore("a", -10, -20), api.OK, api.OK},
	{"at the greatest cell", bore("a", 89, 79), api.OK, api.OK},
	{"below Min.X", bore("a", -11, 0), api.ErrOutside, api.OK},
	{"below Min.Y", bore("a", 0, -21), api.ErrOutside, api.OK},
	{"at Max.X", bore("a", 90, 0), api.ErrOutside, api.OK},
	{"at Max.Y", bore("a", 0, 80), api.ErrOutside, api.OK},
	{"in the range", bore("a", -top, -top, -top, top, api.Sound), api.ErrOutside, api.OK},
	{"at the end of the range", bore("a", top-1, top-1), api.ErrOutside, api.OK},
	{"x below the range", bore("a", -top-1, 0), api.ErrOutside, api.ErrRange},
	{"y below the range", bore("a", 0, -top-1), api.ErrOutside, api.ErrRange},
	{"x above the range", bore("a", top, 0), api.ErrOutside, api.ErrRange},
	{"y above the range", bore("a", 0, top), api.ErrOutside, api.ErrRange},
	{"x far away", bore("a", math.MinInt, 0), api.ErrOutside, api.ErrRange},
	{"y far away", bore("a", 0, math.MaxInt), api.ErrOutside, api.ErrRange},
	{"from below the range", bore("a", 0, 0, -top-1, 0, api.Sound), api.ErrOutside, api.ErrRange},
	{"to above the range", bore("a", 0, 0, 0, top+1, api.Sound), api.ErrOutside, api.ErrRange},
	{"all z there are", bore("a", 0, 0, math.MinInt, math.MaxInt, api.Sound), api.ErrOutside, api.ErrRange},
	// Of several errors the first one counts.
	{"no name, and 65 logs", func() api.Boring { b := many(65); b.Name = ""; return b }(), api.ErrName, api.ErrName},
	{"65 logs, one without z", func() api.Boring { b := many(65); b.Logs[64].Hi = 0; return b }(), api.ErrTooMany, api.ErrTooMany},
	{"far away, and the last log without z", bore("a", top, 0, 0, top+1, api.Sound, 5, 5, api.Sound), api.ErrInvalid, api.ErrInvalid},
	{"an overlap in front of an unseen log", bore("a", 0, 0, 5, 7, api.Sound, 6, 8, api.Unseen), api.ErrInvalid, api.ErrInvalid},
	{"an overlap far away", bore("a", top, 0, 5, 7, api.Sound, 6, 8, api.Sound), api.ErrOutside, api.ErrRange},
	{"an overlap in front of a log far away", bore("a", 0, 0, 5, 7, api.Sound, 6, 8, api.Sound, 8, top+1, api.Sound), api.ErrOutside, api.ErrRange},
	{"an overlap outside the pit", bore("a", 90, 0, 5, 7, api.Sound, 6, 8, api.Sound), api.ErrOutside, api.ErrOverlap},
}

func TestChecks(t *testing.T) {
	good := bore("good", 0, 0, 0, 1, api.Sound)
	s := api.Survey{Pit: pit()}
	for _, c := range checks {
		before := copyOf(c.b)
		if e := Check(c.b, pit()); e != c.in {
			t.Errorf("%s: Check gives %d, want %d", c.name, e, c.in)
		}
		for _, list := range [][]api.Boring{{c.b}, {c.b, good}, {good, c.b}} {
			if e := CheckAll(list, pit()); e != c.in {
				t.Errorf("%s: CheckAll gives %d, want %d", c.name, e, c.in)
			}
		}
		if list, e := Against(c.b, s); e != c.in || list != nil {
			t.Errorf("%s: Against gives %v, %d, want %d", c.name, list, e, c.in)
		}
		checkFormedResults(t, c.name, c.b, c.formed)
		if !same(c.b, before) {
			t.Errorf("%s: the boring was changed", c.name)
		}
	}
}

// checkFormedResults checks what functions say that want a formed boring: this error, and with an error nothing else.
func checkFormedResults(t *testing.T, name string, b api.Boring, want api.Errno) {
	t.Helper()
	if n, e := Normal(b); e != want || e != api.OK && !isZero(n) {
		t.Errorf("%s: Normal gives %v, %d, want %d", name, n, e, want)
	}
	if list, e := Evidence(b); e != want || e != api.OK && list != nil {
		t.Errorf("%s: Evidence gives %v, %d, want %d", name, list, e, want)
	}
	if l, e := Line(b); e != want || e != api.OK && (l.Tokens != nil || l.Kids != nil || l.Heading) {
		t.Errorf("%s: Line gives %v, %d, want %d", name, l, e, want)
	}
	beside := bore("beside", 3, 3)
	beside.At = b.At
	if want == api.OK {
		if m, e := Merge(beside, b); e != api.OK || m.Name != "beside" {
			t.Errorf("%s: Merge gives %v, %d", name, m, e)
		}
		return
	}
	// An error of a boring comes before that of different points.
	for _, other := range []api.Boring{bore("other", 3, 3), example()} {
		if m, e := Merge(b, other); e != want || !isZero(m) {
			t.Errorf("%s: Merge gives %v, %d, want %d", name, m, e, want)
		}
		if m, e := Merge(other, b); e != want || !isZero(m) {
			t.Errorf("%s: Merge gives %v, %d, want %d", name, m, e, want)
		}
	}
	for _, c := range checks {
		if c.formed != api.OK {
			if m, e := Merge(b, c.b); e != want || !isZero(m) {
				t.Errorf("%s, and %s: Merge gives %v, %d, want %d", name, c.name, m, e, want)
			}
		}
	}
}

func TestPits(t *testing.T) {
	for _, c := range []struct {
		name string
		pit  api.Box
		want api.Errno
	}{
		{"a pit", cube(0, 100), api.OK},
		{"the greatest pit", cube(-top, top), api.OK},
		{"the least pit", bx(5, 5, 0, 6, 6, 30), api.OK},
		{"no pit", api.Box{}, api.ErrInvalid},
		{"no x", bx(6, 0, 0, 6, 9, 40), api.ErrInvalid},
		{"no z", bx(0, 0, 40, 9, 9, 0), api.ErrInvalid},
		{"too great a pit", bx(0, 0, 0, 100, 100, top+1), api.ErrRange},
		{"a pit far away", cube(math.MaxInt, math.MinInt), api.ErrRange},
		{"a pit above", bx(0, 0, 1, 9, 9, 40), api.ErrOutside},
	} {
		if e := Check(example(), c.pit); e != c.want {
			t.Errorf("%s: %d, want %d", c.name, e, c.want)
		}
		if e := CheckAll([]api.Boring{example()}, c.pit); e != c.want {
			t.Errorf("%s: CheckAll gives %d, want %d", c.name, e, c.want)
		}
		if c.want == api.ErrOutside {
			continue
		}
		// The error of the pit comes before those of the borings, and without borings too.
		if e := CheckAll(nil, c.pit); e != c.want {
			t.Errorf("%s: CheckAll of nothing gives %d, want %d", c.name, e, c.want)
		}
		if e := Check(api.Boring{}, c.pit); c.want != api.OK && e != c.want {
			t.Errorf("%s: Check of an empty boring gives %d, want %d", c.name, e, c.want)
		}
	}
}

func TestCheckAll(t *testing.T) {
	var list []api.Boring
	for i := range api.MaxBorings + 1 {
		list = append(list, bore("b"+strconv.Itoa(i), i, 0, 0, 1, api.Sound))
	}
	changed := func(i int, change func(b *api.Boring)) []api.Boring {
		out := slices.Clone(list[:api.MaxBorings])
		change(&out[i])
		return out
	}
	for i, c := range []struct {
		list []api.Boring
		want api.Errno
	}{
		{list[:0], api.OK},
		{list[:64], api.OK},
		{list, api.ErrTooMany},
		{changed(63, func(b *api.Boring) { b.Name = "b0" }), api.ErrDuplicate},
		{changed(0, func(b *api.Boring) { b.Name = "b1" }), api.ErrDuplicate},
		{changed(9, func(b *api.Boring) { b.At.X = 0 }), api.OK},
		{changed(63, func(b *api.Boring) { b.At.X = -11 }), api.ErrOutside},
		{[]api.Boring{example(), example()}, api.ErrDuplicate},
		// Each error for all borings before the next one.
		{[]api.Boring{many(65), bore("A", 0, 0)}, api.ErrName},
		{[]api.Boring{bore("a", 0, 0, 5, 5, 1), many(65)}, api.ErrTooMany},
		{[]api.Boring{bore("a", -11, 0), bore("b", 0, 0, 5, 6, 3)}, api.ErrInvalid},
		{[]api.Boring{bore("a", 0, 0, 5, 7, 1, 6, 8, 1), bore("b", 0, 0, 70, 71, 1)}, api.ErrOutside},
		{[]api.Boring{bore("a", 0, 0), bore("a", 0, 0), bore("b", 0, 0, 5, 7, 1, 6, 8, 1)}, api.ErrOverlap},
		{[]api.Boring{bore("a", 0, 0), bore("a", 0, 0), bore("A", 0, 0)}, api.ErrName},
	} {
		if e := CheckAll(c.list, pit()); e != c.want {
			t.Errorf("%d: %d, want %d", i, e, c.want)
		}
	}
	// Too many borings come before the pit.
	if e := CheckAll(list, api.Box{}); e != api.ErrTooMany {
		t.Errorf("too many borings in no pit: %d", e)
	}
}

func TestState(t *testing.T) {
	for i, c := range []struct {
		b       api.Boring
		z, want int
	}{
		{api.Boring{}, 0, api.Unseen},
		{bore("", 0, 0, 0, 5, 2, 3, 9, 1), 3, 2},
		{bore("", 0, 0, 3, 9, 1, 0, 5, 2), 3, 1},
		{bore("", 0, 0, 3, 9, 1, 0, 5, 2), 2, 2},
		{bore("", 0, 0, 3, 9, 1, 0, 5, 2), 9, 0},
		{bore("", 0, 0, 5, 5, 1, 5, 6, 2), 5, 2},
		{bore("", 0, 0, 9, 1, 1, 5, 6, 2), 5, 2},
		{bore("", 0, 0, 9, 1, 1, 5, 6, 2), 4, 0},
		{bore("", 0, 0, 5, 6, 77, 7, 8, -3), 5, 77},
		{bore("", 0, 0, 5, 6, 77, 7, 8, -3), 7, -3},
		{bore("", 0, 0, math.MinInt, math.MaxInt, 2), math.MinInt, 2},
		{bore("", 0, 0, math.MinInt, math.MaxInt, 2), math.MaxInt - 1, 2},
		{bore("", 0, 0, math.MinInt, math.MaxInt, 2), math.MaxInt, 0},
		{many(5000), 4999, 2},
		{many(5000), 5000, 0},
		{many(5000), -1, 0},
	} {
		if got := State(c.b, c.z); got != c.want {
			t.Errorf("%d: %d, want %d", i, got, c.want)
		}
	}
	next := draw(14)
	for range 20000 {
		b := drawAny(next)
		for z := -4; z < 11; z++ {
			if got, want := State(b, z), modelState(b, z); got != want {
				t.Fatalf("%v at %d: %d, want %d", b, z, got, want)
			}
		}
	}
}

func TestSeen(t *testing.T) {
	for i, c := range []struct {
		b                   api.Boring
		state, sum, longest int
	}{
		{api.Boring{}, api.Sound, 0, 0},
		{example(), api.Unseen, 0, 0},
		{example(), api.Clash, 0, 0},
		{example(), -1, 0, 0},
		{bore("", 0, 0, 0, 5, api.Unseen), api.Unseen, 0, 0},
		{bore("", 0, 0, 0, 5, api.Clash), api.Clash, 0, 0},
		{bore("", 0, 0, 0, 5, 7, 5, 6, api.Sound), api.Sound, 1, 1},
		{bore("", 0, 0, 0, 5, 1, 5, 6, 2, 6, 9, 1), api.Sound, 8, 5},
		{bore("", 0, 0, 0, 2, 1, 2, 3, 1, 4, 6, 1), api.Sound, 5, 3},
		{bore("", 0, 0, 0, 2, 1, 3, 5, 1, 5, 6, 1), api.Sound, 5, 3},
		{bore("", 0, 0, -9, -7, 2, -7, 5, 2), api.Flawed, 14, 14},
		{bore("", 0, 0, 0, 5, 1, 4, 6, 1), api.Sound, 0, 0},
		{bore("", 0, 0, 5, 9, 1, 0, 5, 1), api.Sound, 0, 0},
		{bore("", 0, 0, 0, 5, 1, 5, 5, 2), api.Sound, 0, 0},
		{bore("", 0, 0, 5, 4, 1), api.Sound, 0, 0},
		{many(5000), api.Sound, 2500, 1},
		{bore("", top+9, 0, -5*top, 5*top, 1), api.Sound, 10 * top, 10 * top},
	} {
		if sum, longest := Seen(c.b, c.state); sum != c.sum || longest != c.longest {
			t.Errorf("%d: %d, %d, want %d, %d", i, sum, longest, c.sum, c.longest)
		}
	}
}

func TestMerge(t *testing.T) {
	a := example()
	for i, c := range []struct {
		b    api.Boring
		want api.Boring
		e    api.Errno
	}{
		{bore("x", 5, 5), bore("b1", 5, 5, 0, 20, 1, 25, 30, 2), api.OK},
		{bore("x", 5, 6), api.Boring{}, api.ErrConflict},
		{bore("x", 4, 5), api.Boring{}, api.ErrConflict},
		{bore("x", 6, 5, 0, 10, 1), api.Boring{}, api.ErrConflict},
		{bore("b1", 5, 5, 20, 25, 2), bore("b1", 5, 5, 0, 20, 1, 20, 30, 2), api.OK},
		{bore("x", 5, 5, 19, 20, 2), api.Boring{}, api.ErrConflict},
		{bore("x", 5, 5, 0, 1, 2), api.Boring{}, api.ErrConflict},
		{bore("x", 5, 5, 9, 10, 2), api.Boring{}, api.ErrConflict},
		{bore("x", 5, 5, 10, 11, 2), api.Boring{}, api.ErrConflict},
		{bore("x", 5, 5, 20, 26, 1), api.Boring{}, api.ErrConflict},
		{bore("x", 5, 5, 29, 35, 1), api.Boring{}, api.ErrConflict},
		{bore("x", 5, 5, 29, 35, 2), bore("b1", 5, 5, 0, 20, 1, 25, 35, 2), api.OK},
		{bore("x", 5, 5, -9, 0, 2, 30, 35, 1), bore("b1", 5, 5, -9, 0, 2, 0, 20, 1, 25, 30, 2, 30, 35, 1), api.OK},
		{bore("x", 5, 5, -9, 20, 1, 20, 40, 2), bore("b1", 5, 5, -9, 20, 1, 20, 40, 2), api.OK},
		{bore("x", 5, 5, 3, 15, 1, 26, 27, 2), bore("b1", 5, 5, 0, 20, 1, 25, 30, 2), api.OK},
		{bore("x", 5, 5, 3, 5, 1, 8, 9, 2), api.Boring{}, api.ErrConflict},
	} {
		if m, e := Merge(a, c.b); !same(m, c.want) || e != c.e {
			t.Errorf("%d: %v, %d, want %v, %d", i, m, e, c.want, c.e)
		}
	}
	// The result may have more logs than a boring.
	low, high := bore("low", 0, 0), bore("high", 0, 0)
	for i := range api.MaxLogs {
		low.Logs = append(low.Logs, api.Log{Lo: 4 * i, Hi: 4*i + 1, State: api.Sound})
		high.Logs = append(high.Logs, api.Log{Lo: 4*i + 2, Hi: 4*i + 3, State: api.Sound})
	}
	if m, e := Merge(low, high); len(m.Logs) != 128 || e != api.OK {
		t.Errorf("%d logs, %d", len(m.Logs), e)
	}
}

func surveyWith(flaws ...api.Flaw) api.Survey { return api.Survey{Pit: cube(0, 100), Flaws: flaws} }

func flaw(name string, lo, hi int, corners ...api.Point) api.Flaw {
	return api.Flaw{Name: name, Prism: api.Prism{Base: corners, Lo: lo, Hi: hi}}
}

// square returns the corners of a square.
func square(from, to int) []api.Point {
	return []api.Point{{X: from, Y: from}, {X: to, Y: from}, {X: to, Y: to}, {X: from, Y: to}}
}

func TestAgainst(t *testing.T) {
	b := bore("b", 5, 5, 0, 10, 1, 10, 12, 1, 12, 20, 2, 20, 30, 1, 40, 50, 1)
	for i, c := range []struct {
		s    api.Survey
		want []Conflict
	}{
		{surveyWith(), nil},
		{surveyWith(flaw("f", 0, 100, square(0, 9)...)), []Conflict{{"f", 0, 12}, {"f", 20, 30}, {"f", 40, 50}}},
		{surveyWith(flaw("f", 0, 100, square(5, 6)...)), []Conflict{{"f", 0, 12}, {"f", 20, 30}, {"f", 40, 50}}},
		{surveyWith(flaw("f", 0, 100, square(0, 5)...)), nil},
		{surveyWith(flaw("f", 0, 100, square(6, 9)...)), nil},
		{surveyWith(flaw("f", 0, 100, api.Point{X: 4, Y: 4}, api.Point{X: 7, Y: 4}, api.Point{X: 7, Y: 6})), []Conflict{{"f", 0, 12}, {"f", 20, 30}, {"f", 40, 50}}},
		{surveyWith(flaw("f", 0, 100, api.Point{X: 5, Y: 4}, api.Point{X: 7, Y: 4}, api.Point{X: 7, Y: 6})), nil},
		{surveyWith(flaw("f", 12, 20, square(0, 9)...)), nil},
		{surveyWith(flaw("f", 30, 40, square(0, 9)...)), nil},
		{surveyWith(flaw("f", 50, 99, square(0, 9)...)), nil},
		{surveyWith(flaw("f", 11, 21, square(0, 9)...)), []Conflict{{"f", 11, 12}, {"f", 20, 21}}},
		{surveyWith(flaw("f", 29, 41, square(0, 9)...)), []Conflict{{"f", 29, 30}, {"f", 40, 41}}},
		{surveyWith(flaw("f", 25, 26, square(0, 9)...)), []Conflict{{"f", 25, 26}}},
		{surveyWith(flaw("f", 0, 41, square(0, 9)...), flaw("g", 0, 99, square(9, 10)...), flaw("h", 8, 22, square(5, 9)...)), []Conflict{{"f", 0, 12}, {"f", 20, 30}, {"f", 40, 41}, {"h", 8, 12}, {"h", 20, 22}}},
	} {
		if got, e := Against(b, c.s); !slices.Equal(got, c.want) || e != api.OK {
			t.Errorf("%d: %v, %d, want %v", i, got, e, c.want)
		}
	}
	// A boring at the last cells of the pit, and one beside it.
	if got, e := Against(bore("b", 99, 99, 99, 100, 1), surveyWith(flaw("f", 0, 100, square(99, 100)...))); !slices.Equal(got, []Conflict{{"f", 99, 100}}) || e != api.OK {
		t.Errorf("%v, %d", got, e)
	}
	if got, e := Against(bore("b", 98, 98, 99, 100, 1), surveyWith(flaw("f", 0, 100, square(99, 100)...))); got != nil || e != api.OK {
		t.Errorf("%v, %d", got, e)
	}
	// The errors of the survey come first.
	for i, c := range []struct {
		s    api.Survey
		want api.Errno
	}{
		{api.Survey{}, api.ErrInvalid},
		{api.Survey{Pit: cube(0, top+1)}, api.ErrRange},
		{surveyWith(flaw("F", 0, 1, square(0, 1)...)), api.ErrName},
		{surveyWith(flaw("f", 0, 1, square(0, 1)...), flaw("f", 0, 1, square(0, 1)...)), api.ErrDuplicate},
		{surveyWith(), api.ErrName},
	} {
		if got, e := Against(api.Boring{}, c.s); got != nil || e != c.want {
			t.Errorf("survey %d: %v, %d, want %d", i, got, e, c.want)
		}
	}
}

func TestNearest(t *testing.T) {
	at := func(numbers ...int) []api.Boring {
		var out []api.Boring
		for i := 0; i < len(numbers); i += 2 {
			out = append(out, bore("", numbers[i], numbers[i+1]))
		}
		return out
	}
	for i, c := range []struct {
		list []api.Boring
		p    api.Point
		want int
		e    api.Errno
	}{
		{nil, api.Point{}, 0, api.ErrNone},
		{[]api.Boring{}, api.Point{X: top + 1}, 0, api.ErrNone},
		{at(5, 5), api.Point{X: top, Y: -top}, 0, api.OK},
		{at(5, 5, 1, 1), api.Point{}, 1, api.OK},
		{at(1, 1, 5, 5), api.Point{}, 0, api.OK},
		{at(3, 4, 5, 0, 0, 5, -4, 3), api.Point{}, 0, api.OK},
		{at(6, 0, 5, 0, 0, 5, -4, 3), api.Point{}, 1, api.OK},
		{at(0, 6, 4, 4), api.Point{}, 1, api.OK},
		{at(0, 5, 4, 4), api.Point{}, 0, api.OK},
		{at(-9, -9, 9, 9), api.Point{X: 1}, 1, api.OK},
		{at(-9, -9, 9, 9), api.Point{Y: -1}, 0, api.OK},
		{at(top, top, top-1, top), api.Point{X: -top, Y: -top}, 1, api.OK},
		{at(-top, -top, top, top), api.Point{X: top, Y: top}, 1, api.OK},
		{at(7, 7, 7, 7), api.Point{X: 7, Y: 7}, 0, api.OK},
		{at(5, 5), api.Point{X: top + 1}, 0, api.ErrRange},
		{at(5, 5), api.Point{X: -top - 1}, 0, api.ErrRange},
		{at(5, 5), api.Point{Y: top + 1}, 0, api.ErrRange},
		{at(5, 5), api.Point{Y: math.MinInt}, 0, api.ErrRange},
		{at(0, 0, top+1, 0), api.Point{}, 0, api.ErrRange},
		{at(0, 0, 0, top+1), api.Point{}, 0, api.ErrRange},
		{at(9, 0, 0, 0, 0, -top-1), api.Point{}, 0, api.ErrRange},
		{at(math.MaxInt, 0, 0, 0), api.Point{}, 0, api.ErrRange},
	} {
		if got, e := Nearest(c.list, c.p); got != c.want || e != c.e {
			t.Errorf("%d: %d, %d, want %d, %d", i, got, e, c.want, c.e)
		}
	}
	// Borings need not be valid, and there may be any number of them.
	list := slices.Repeat([]api.Boring{bore("", 2, 2, 5, 5, 9)}, 1000)
	list[700].At.X = 1
	if got, e := Nearest(list, api.Point{}); got != 700 || e != api.OK {
		t.Errorf("%d, %d", got, e)
	}
	next := draw(3)
	for range 3000 {
		list := make([]api.Boring, 1+next(9))
		for i := range list {
			list[i] = bore("", next(7)-3, next(7)-3)
		}
		p := api.Point{X: next(7) - 3, Y: next(7) - 3}
		got, e := Nearest(list, p)
		for i, b := range list {
			x, y := float64(b.At.X-p.X), float64(b.At.Y-p.Y)
			u, v := float64(list[got].At.X-p.X), float64(list[got].At.Y-p.Y)
			if far, near := math.Hypot(x, y), math.Hypot(u, v); e != api.OK || near > far || i < got && near == far {
				t.Fatalf("%v from %v: %d, %d, not %d", list, p, got, e, i)
			}
		}
	}
}

func TestDrawnBorings(t *testing.T) {
	next := draw(41)
	for range 4000 {
		space := bx(-2, -2, -9, 2, 2, -8+next(30))
		a, b := drawBoring(next, "a", space), drawBoring(next, "b", space)
		if next(2) == 0 {
			b.At = a.At
		}
		if next(2) == 0 {
			for i := range b.Logs {
				b.Logs[i].State = api.Sound
			}
			for i := range a.Logs {
				a.Logs[i].State = api.Sound
			}
		}
		beforeA, beforeB := copyOf(a), copyOf(b)
		if e := CheckAll([]api.Boring{a, b}, space); e != api.OK {
			t.Fatalf("%v, %v: %d", a, b, e)
		}
		checkNormal(t, a, space)
		checkMerge(t, a, b, space)
		checkLineOf(t, a)
		if !same(a, beforeA) || !same(b, beforeB) || t.Failed() {
			t.Fatalf("%v, %v", a, b)
		}
	}
}

// checkNormal checks what is promised of a boring alone.
func checkNormal(t *testing.T, b api.Boring, pit api.Box) {
	t.Helper()
	from, to := pit.Min.Z-1, pit.Max.Z+1
	want := logsOf(from, to, func(z int) int { return modelState(b, z) })
	n, e := Normal(b)
	if n.Name != b.Name || n.At != b.At || !slices.Equal(n.Logs, want) || e != api.OK {
		t.Errorf("Normal: %v, %d", n, e)
	}
	if again, e := Normal(n); !same(again, n) || e != api.OK {
		t.Errorf("Normal of Normal: %v, %d", again, e)
	}
	for z := from; z < to; z++ {
		if State(b, z) != modelState(b, z) || State(n, z) != modelState(b, z) {
			t.Errorf("at %d it says %d, and in normal form %d", z, State(b, z), State(n, z))
		}
	}
	for _, state := range []int{api.Sound, api.Flawed} {
		sum, longest := modelSeen(b, state, from, to)
		for _, c := range []api.Boring{b, n} {
			if s, l := Seen(c, state); s != sum || l != longest || l > s {
				t.Errorf("%d is seen at %d, %d, want %d, %d", state, s, l, sum, longest)
			}
		}
	}
	list, e := Evidence(b)
	if len(list) != len(want) || e != api.OK {
		t.Errorf("Evidence: %v, %d", list, e)
		return
	}
	for i, l := range want {
		if list[i] != (api.Evidence{Source: b.Name, Box: bx(b.At.X, b.At.Y, l.Lo, b.At.X+1, b.At.Y+1, l.Hi), State: l.State}) {
			t.Errorf("the evidence %v for %v", list[i], l)
		}
		if i > 0 && list[i-1].Box.Max.Z > list[i].Box.Min.Z {
			t.Errorf("the evidence overlaps: %v", list)
		}
	}
}

func checkMerge(t *testing.T, a, b api.Boring, pit api.Box) {
	t.Helper()
	want, ok := modelMerge(a, b, pit.Min.Z, pit.Max.Z)
	m, e := Merge(a, b)
	n, f := Merge(b, a)
	if !ok {
		if e != api.ErrConflict || f != api.ErrConflict || !isZero(m) || !isZero(n) {
			t.Errorf("Merge: %v, %d, and %v, %d", m, e, n, f)
		}
		return
	}
	if m.Name != "a" || m.At != a.At || !slices.Equal(m.Logs, want) || e != api.OK {
		t.Errorf("Merge: %v, %d", m, e)
	}
	if n.Name != "b" || n.At != a.At || !slices.Equal(n.Logs, want) || f != api.OK {
		t.Errorf("Merge in the other order: %v, %d", n, f)
	}
}

func TestDrawnSurveys(t *testing.T) {
	next := draw(9)
	s := api.Survey{Pit: bx(-3, -3, -3, 4, 4, 9)}
	for range 3000 {
		s.Flaws = nil
		for i := range next(4) {
			x, y, w, lo := next(4)-3, next(4)-3, 1+next(3), next(9)-3
			f := flaw("f"+strconv.Itoa(i), lo, lo+1+next(3), api.Point{X: x, Y: y}, api.Point{X: x + w, Y: y}, api.Point{X: x + next(w+1), Y: y + 1 + next(3)})
			s.Flaws = append(s.Flaws, f)
		}
		b := drawBoring(next, "b", s.Pit)
		if got, e := Against(b, s); !slices.Equal(got, modelAgainst(b, s)) || e != api.OK {
			t.Fatalf("%v against %v: %v, %d, want %v", b, s.Flaws, got, e, modelAgainst(b, s))
		}
	}
}

// TestDrawnChecks compares the errors of borings of any form with the definition of a valid one.
func TestDrawnChecks(t *testing.T) {
	next := draw(77)
	valid := 0
	for range 20000 {
		b := drawAny(next)
		ok := true
		for i, l := range b.Logs {
			ok = ok && l.Lo < l.Hi && (l.State == api.Sound || l.State == api.Flawed) && l.Lo >= -1 && l.Hi <= 7 && (i == 0 || b.Logs[i-1].Hi <= l.Lo)
		}
		if e := Check(b, bx(0, 0, -1, 1, 1, 7)); (e == api.OK) != ok {
			t.Fatalf("%v: %d", b, e)
		}
		if ok {
			valid++
		}
	}
	if valid < 1000 {
		t.Errorf("only %d valid borings", valid)
	}
}

func TestResultsShareNoMemory(t *testing.T) {
	b := example()
	n, _ := Normal(b)
	n.Logs[0].Lo = 7
	_ = append(n.Logs[:1], api.Log{})
	m, _ := Merge(b, bore("c", 5, 5))
	m.Logs[0].Lo = 7
	m, _ = Merge(bore("c", 5, 5), b)
	m.Logs[0].Lo = 7
	list, _ := Evidence(b)
	list[0].Box.Min.Z = 9
	// Logs with room behind them must not be appended to.
	room := api.Boring{Name: "r", At: b.At, Logs: append(make([]api.Log, 0, 9), b.Logs...)}
	if m, e := Merge(room, bore("c", 5, 5, 40, 50, 1)); len(m.Logs) != 3 || e != api.OK {
		t.Errorf("%v, %d", m, e)
	}
	if !same(b, example()) || room.Logs[:4][3] != (api.Log{}) {
		t.Errorf("%v, %v", b, room.Logs[:4])
	}
}
