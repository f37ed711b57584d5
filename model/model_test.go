package model

import (
	"math"
	"slices"
	"strings"
	"testing"

	"gangsaw/api"
	"gangsaw/lexer"
)

func TestExamples(t *testing.T) {
	list := example()
	for _, c := range []struct {
		cell api.Vec
		want int
	}{{vec(5, 5, 5), api.Clash}, {vec(4, 5, 5), api.Sound}, {vec(10, 10, 10), api.Flawed}, {vec(20, 0, 0), api.Unseen}} {
		if state, e := State(list, c.cell); state != c.want || e != api.OK {
			t.Errorf("State of %v: %d, %d", c.cell, state, e)
		}
	}
	if pairs, e := Clashes(list); !slices.Equal(pairs, [][2]int{{0, 1}}) || e != api.OK {
		t.Errorf("Clashes: %v, %d", pairs, e)
	}
	for state, want := range map[int]int64{api.Clash: 125, api.Sound: 875, api.Flawed: 0, api.Unseen: 0} {
		if volume, e := Volume(list, cube(0, 10), state); volume != want || e != api.OK {
			t.Errorf("Volume of %d: %d, %d", state, volume, e)
		}
	}
	if cell, e := First(list, cube(0, 10), api.Clash); cell != vec(5, 5, 5) || e != api.OK {
		t.Errorf("First: %v, %d", cell, e)
	}
	if names, e := Sources(list, vec(5, 5, 5)); !slices.Equal(names, []string{"a", "b"}) || e != api.OK {
		t.Errorf("Sources: %q, %d", names, e)
	}
	if useless, e := Useless(append(list, sound("c", cube(0, 10))), 2); !useless || e != api.OK {
		t.Errorf("Useless: %v, %d", useless, e)
	}
	rest, e := Without(list, "b")
	if !slices.Equal(rest, list[:1]) || e != api.OK {
		t.Errorf("Without: %v, %d", rest, e)
	}
	if useless, e := Useless(rest, 0); useless || e != api.OK {
		t.Errorf("Useless: %v, %d", useless, e)
	}
}

// labelled returns evidence from a source, behind and before other evidence.
func labelled(source string) []api.Evidence {
	return []api.Evidence{sound("a", cube(0, 2)), flawed(source, cube(1, 3)), sound("z", cube(0, 3))}
}

func about(b api.Box) []api.Evidence {
	return []api.Evidence{sound("a", cube(0, 2)), flawed("b", cube(1, 3)), sound("z", b)}
}

func stated(state int) []api.Evidence {
	return []api.Evidence{sound("a", cube(0, 2)), {Source: "b", Box: cube(1, 3), State: state}}
}

func many(count int) []api.Evidence {
	return slices.Repeat([]api.Evidence{sound("a", cube(0, 2))}, count)
}

// checks are lists of evidence with what Check says of them.
var checks = []struct {
	name string
	list []api.Evidence
	want api.Errno
}{
	{"nil", nil, api.OK},
	{"empty", []api.Evidence{}, api.OK},
	{"the example", example(), api.OK},
	{"256 elements", many(256), api.OK},
	{"257 elements", many(257), api.ErrTooMany},
	{"257 elements that are all wrong", make([]api.Evidence, 257), api.ErrTooMany},
	{"no source", labelled(""), api.ErrName},
	{"one byte", labelled("#"), api.OK},
	{"40 bytes", labelled(strings.Repeat("x", 40)), api.OK},
	{"41 bytes", labelled(strings.Repeat("x", 41)), api.ErrName},
	{"a blank", labelled(" "), api.ErrName},
	{"a blank in front", labelled(" a"), api.ErrName},
	{"a blank behind", labelled("a "), api.ErrName},
	{"a blank between", labelled("a b"), api.OK},
	{"a quotation mark", labelled("a\"b"), api.ErrName},
	{"marks", labelled("!#'(,)"), api.OK},
	{"byte 31", labelled("a\x1fb"), api.ErrName},
	{"byte 126", labelled("~"), api.OK},
	{"byte 127", labelled("a\x7f"), api.ErrName},
	{"byte 128", labelled("a\x80"), api.ErrName},
	{"a line end", labelled("a\nb"), api.ErrName},
	{"letters of two bytes", labelled("ä"), api.ErrName},
	{"the greatest box", about(cube(-top, top)), api.OK},
	{"the least cell", about(cube(-top, 1-top)), api.OK},
	{"Min.X too small", about(bx(-top-1, 0, 0, 1, 1, 1)), api.ErrRange},
	{"Max.Z too great", about(bx(0, 0, 0, 1, 1, top+1)), api.ErrRange},
	{"far away", about(cube(math.MinInt, math.MaxInt)), api.ErrRange},
	{"no y", about(bx(0, 1, 0, 1, 1, 1)), api.ErrInvalid},
	{"z upside down", about(bx(0, 0, 1, 1, 1, 0)), api.ErrInvalid},
	{"no box", about(api.Box{}), api.ErrInvalid},
	{"an empty box before one out of range", append(about(cube(1, 1)), sound("y", cube(0, top+1))), api.ErrInvalid},
	{"an empty box behind one out of range", append(about(cube(0, top+1)), sound("y", cube(1, 1))), api.ErrRange},
	{"sound", stated(api.Sound), api.OK},
	{"flawed", stated(api.Flawed), api.OK},
	{"unseen", stated(api.Unseen), api.ErrInvalid},
	{"a clash", stated(api.Clash), api.ErrInvalid},
	{"the state -1", stated(-1), api.ErrInvalid},
	{"the state 4", stated(4), api.ErrInvalid},
	{"the greatest state", stated(math.MaxInt), api.ErrInvalid},
	{"the least state", stated(math.MinInt), api.ErrInvalid},
}

// question is what the functions with an error are asked.
type question struct {
	cell         api.Vec
	box          api.Box
	state, index int
}

// answers are the errors of the functions, one for those that look at a cell, at a box, at an index, and at nothing else.
type answers struct{ list, cell, box, index api.Errno }

// checkResults checks that all functions with an error give these ones, and with an error nothing else. What First does not find does not matter.
func checkResults(t *testing.T, name string, list []api.Evidence, q question, want answers) {
	t.Helper()
	before := slices.Clone(list)
	if e := Check(list); e != want.list {
		t.Errorf("%s: Check gives %d, want %d", name, e, want.list)
	}
	if pairs, e := Clashes(list); e != want.list || e != api.OK && pairs != nil {
		t.Errorf("%s: Clashes gives %v, %d, want %d", name, pairs, e, want.list)
	}
	if rest, e := Without(list, "a"); e != want.list || e != api.OK && rest != nil {
		t.Errorf("%s: Without gives %v, %d, want %d", name, rest, e, want.list)
	}
	if state, e := State(list, q.cell); e != want.cell || e != api.OK && state != 0 {
		t.Errorf("%s: State gives %d, %d, want %d", name, state, e, want.cell)
	}
	if names, e := Sources(list, q.cell); e != want.cell || e != api.OK && names != nil {
		t.Errorf("%s: Sources gives %q, %d, want %d", name, names, e, want.cell)
	}
	if volume, e := Volume(list, q.box, q.state); e != want.box || e != api.OK && volume != 0 {
		t.Errorf("%s: Volume gives %d, %d, want %d", name, volume, e, want.box)
	}
	if cell, e := First(list, q.box, q.state); e != want.box && (want.box != api.OK || e != api.ErrNone) || e != api.OK && cell != (api.Vec{}) {
		t.Errorf("%s: First gives %v, %d, want %d", name, cell, e, want.box)
	}
	if all, e := All(list, q.box, q.state); e != want.box || e != api.OK && all {
		t.Errorf("%s: All gives %v, %d, want %d", name, all, e, want.box)
	}
	if useless, e := Useless(list, q.index); e != want.index || e != api.OK && useless {
		t.Errorf("%s: Useless gives %v, %d, want %d", name, useless, e, want.index)
	}
	if !slices.Equal(list, before) {
		t.Errorf("%s: the evidence was changed", name)
	}
}

// wrongs are questions about two elements of evidence that have no answer.
var wrongs = []question{
	{vec(top, 0, 0), api.Box{}, 9, 2},
	{vec(0, 0, -top-1), cube(0, top+1), 0, -1},
	{vec(0, math.MaxInt, 0), cube(0, 1), -1, math.MaxInt},
}

func TestCheck(t *testing.T) {
	right := question{box: cube(0, 1)}
	for _, c := range checks {
		if len(c.list) > 0 {
			checkResults(t, c.name, c.list, right, answers{c.want, c.want, c.want, c.want})
		}
		if e := Check(c.list); e != c.want {
			t.Errorf("%s: Check gives %d, want %d", c.name, e, c.want)
		}
		if c.want != api.OK {
			for _, q := range wrongs {
				checkResults(t, c.name+" and a wrong question", c.list, q, answers{c.want, c.want, c.want, c.want})
			}
		}
	}
}

// breakers are changes that lead to the errors in the order of the table, the later ones at earlier elements.
var breakers = []struct {
	code  api.Errno
	apply func(list []api.Evidence) []api.Evidence
}{
	{api.ErrTooMany, func(list []api.Evidence) []api.Evidence { return append(list, many(253)...) }},
	{api.ErrName, func(list []api.Evidence) []api.Evidence { list[3].Source = ""; return list }},
	{api.ErrRange, func(list []api.Evidence) []api.Evidence { list[1].Box.Max.X = top + 1; return list }},
	{api.ErrInvalid, func(list []api.Evidence) []api.Evidence { list[2].Box.Max.X = -top; return list }},
	{api.ErrInvalid, func(list []api.Evidence) []api.Evidence { list[0].State = api.Clash; return list }},
}

func TestFirstErrorOfSeveral(t *testing.T) {
	for i, first := range breakers {
		for _, other := range breakers[i:] {
			list := first.apply(other.apply(many(4)))
			checkResults(t, "two errors", list, question{box: cube(0, 1)}, answers{first.code, first.code, first.code, first.code})
			for _, q := range wrongs {
				checkResults(t, "an error of the evidence and of the question", list, q, answers{first.code, first.code, first.code, first.code})
			}
		}
	}
	// An error of all boxes stands before one of a state, also if the state stands before the box.
	list := []api.Evidence{{Source: "a", Box: cube(0, 1), State: 7}, sound("b", cube(0, top+1))}
	if e := Check(list); e != api.ErrRange {
		t.Errorf("a state before a box: %d", e)
	}
	list = []api.Evidence{sound("a", cube(0, top+1)), sound("", cube(0, 1))}
	if e := Check(list); e != api.ErrName {
		t.Errorf("a box before a source: %d", e)
	}
}

func TestErrorsOfQuestions(t *testing.T) {
	for _, c := range []struct {
		name string
		q    question
		want answers
	}{
		{"all right", question{vec(1, 1, 1), cube(0, 1), api.Unseen, 1}, answers{}},
		{"the least cell", question{cell: vec(-top, -top, -top), box: cube(0, 1)}, answers{}},
		{"the greatest cell", question{cell: vec(top-1, top-1, top-1), box: cube(0, 1)}, answers{}},
		{"X too small", question{cell: vec(-top-1, 0, 0), box: cube(0, 1)}, answers{cell: api.ErrRange}},
		{"X too great", question{cell: vec(top, 0, 0), box: cube(0, 1)}, answers{cell: api.ErrRange}},
		{"Y too small", question{cell: vec(0, -top-1, 0), box: cube(0, 1)}, answers{cell: api.ErrRange}},
		{"Y too great", question{cell: vec(0, top, 0), box: cube(0, 1)}, answers{cell: api.ErrRange}},
		{"Z too small", question{cell: vec(0, 0, math.MinInt), box: cube(0, 1)}, answers{cell: api.ErrRange}},
		{"Z too great", question{cell: vec(0, 0, top), box: cube(0, 1)}, answers{cell: api.ErrRange}},
		{"an empty box", question{box: cube(1, 1)}, answers{box: api.ErrInvalid}},
		{"a box out of range", question{box: cube(0, top+1)}, answers{box: api.ErrRange}},
		{"an empty box out of range", question{box: cube(top+1, 0)}, answers{box: api.ErrRange}},
		{"the state -1", question{box: cube(0, 1), state: -1}, answers{box: api.ErrInvalid}},
		{"the state 4", question{box: cube(0, 1), state: 4}, answers{box: api.ErrInvalid}},
		{"the greatest state", question{box: cube(0, 1), state: math.MaxInt}, answers{box: api.ErrInvalid}},
		{"the least state", question{box: cube(0, 1), state: math.MinInt}, answers{box: api.ErrInvalid}},
		{"a box out of range and no state", question{box: cube(0, top+1), state: 4}, answers{box: api.ErrRange}},
		{"the index -1", question{box: cube(0, 1), index: -1}, answers{index: api.ErrRange}},
		{"the index 2", question{box: cube(0, 1), index: 2}, answers{index: api.ErrRange}},
		{"the greatest index", question{box: cube(0, 1), index: math.MaxInt}, answers{index: api.ErrRange}},
		{"the least index", question{box: cube(0, 1), index: math.MinInt}, answers{index: api.ErrRange}},
	} {
		checkResults(t, c.name, example(), c.q, c.want)
	}
	if useless, e := Useless(nil, 0); useless || e != api.ErrRange {
		t.Errorf("Useless of nothing: %v, %d", useless, e)
	}
}

// TestLabels compares which sources Check lets pass with package lexer.
func TestLabels(t *testing.T) {
	try := func(s string) {
		want := api.ErrName
		if lexer.Label(s) {
			want = api.OK
		}
		if e := Check([]api.Evidence{sound(s, cube(0, 1))}); e != want {
			t.Errorf("%q: %d, want %d", s, e, want)
		}
	}
	for a := range 256 {
		try(string([]byte{byte(a)}))
		for b := range 256 {
			try(string([]byte{byte(a), byte(b)}))
			try(string([]byte{'x', byte(a), byte(b), 'y'}))
		}
	}
	for length := range 100 {
		try(strings.Repeat("x", length))
		try(strings.Repeat(" ", length))
	}
}

func TestJoin(t *testing.T) {
	const u, s, f, c = api.Unseen, api.Sound, api.Flawed, api.Clash
	for a, row := range [][]int{{u, s, f, c}, {s, s, c, c}, {f, c, f, c}, {c, c, c, c}} {
		for b, want := range row {
			if got, e := Join(a, b); got != want || e != api.OK {
				t.Errorf("Join(%d, %d) is %d, %d, want %d", a, b, got, e, want)
			}
		}
	}
	for _, wrong := range []int{-1, 4, -2, 5, 7, math.MaxInt, math.MinInt} {
		for _, other := range []int{wrong, u, s, f, c} {
			for _, pair := range [][2]int{{wrong, other}, {other, wrong}} {
				if got, e := Join(pair[0], pair[1]); got != 0 || e != api.ErrInvalid {
					t.Errorf("Join(%d, %d) is %d, %d", pair[0], pair[1], got, e)
				}
			}
		}
	}
}

// TestLawsOfJoin has the part of P15.5 about the join.
func TestLawsOfJoin(t *testing.T) {
	join := func(a, b int) int {
		state, _ := Join(a, b)
		return state
	}
	for a := range 4 {
		if join(a, a) != a {
			t.Errorf("%d is not idempotent", a)
		}
		for b := range 4 {
			if join(a, b) != join(b, a) {
				t.Errorf("%d and %d do not commute", a, b)
			}
			for c := range 4 {
				if join(join(a, b), c) != join(a, join(b, c)) {
					t.Errorf("%d, %d and %d are not associative", a, b, c)
				}
			}
		}
	}
}

// checkBoxOf holds what evidence says of the cells of a box against its definition.
func checkBoxOf(t *testing.T, list []api.Evidence, b api.Box) {
	t.Helper()
	var volumes [4]int64
	var firsts [4]api.Vec
	for _, cell := range cellsOf(b) {
		state := modelState(list, cell)
		if volumes[state] == 0 {
			firsts[state] = cell
		}
		volumes[state]++
	}
	for state, want := range volumes {
		if volume, e := Volume(list, b, state); volume != want || e != api.OK {
			t.Errorf("Volume of %d in %v is %d, %d, want %d", state, b, volume, e, want)
		}
		code := api.OK
		if want == 0 {
			code = api.ErrNone
		}
		if cell, e := First(list, b, state); cell != firsts[state] || e != code {
			t.Errorf("First of %d in %v is %v, %d, want %v, %d", state, b, cell, e, firsts[state], code)
		}
		if all, e := All(list, b, state); all != (want == int64(len(cellsOf(b)))) || e != api.OK {
			t.Errorf("All of %d in %v is %v, %d", state, b, all, e)
		}
	}
}

// checkList holds all that evidence says about the cells in and around a box against its definition.
func checkList(t *testing.T, list []api.Evidence, around api.Box) {
	t.Helper()
	for _, cell := range cellsOf(around) {
		if state, e := State(list, cell); state != modelState(list, cell) || e != api.OK {
			t.Errorf("State of %v is %d, %d", cell, state, e)
		}
		if names, e := Sources(list, cell); !slices.Equal(names, modelSources(list, cell)) || e != api.OK {
			t.Errorf("Sources of %v is %q, %d", cell, names, e)
		}
	}
	if pairs, e := Clashes(list); !slices.Equal(pairs, modelClashes(list)) || e != api.OK {
		t.Errorf("Clashes is %v, %d, want %v", pairs, e, modelClashes(list))
	}
	for i := range list {
		if useless, e := Useless(list, i); useless != modelUseless(list, i) || e != api.OK {
			t.Errorf("Useless of %d is %v, %d", i, useless, e)
		}
	}
}

func TestDrawnEvidence(t *testing.T) {
	next := draw(15)
	around := cube(-4, 5)
	for i := range 1200 {
		at := drawBox(next, cube(-3, 4))
		list := drawList(next, i%9, at)
		before := slices.Clone(list)
		checkList(t, list, around)
		checkBoxOf(t, list, around)
		for range 10 {
			checkBoxOf(t, list, drawBox(next, around))
		}
		if !slices.Equal(list, before) || t.Failed() {
			t.Fatalf("%v", list)
		}
	}
}

// TestAllPairs has all lists of two elements in a small grid, and all boxes in it.
func TestAllPairs(t *testing.T) {
	grid := bx(-1, 0, 1, 1, 2, 2)
	all := allBoxes(grid)
	for _, a := range all {
		for _, b := range all {
			for states := range 4 {
				list := []api.Evidence{{Source: "b", Box: a, State: 1 + states%2}, {Source: "a", Box: b, State: 1 + states/2}}
				checkList(t, list, grid)
				for _, c := range all {
					checkBoxOf(t, list, c)
				}
			}
		}
		if t.Failed() {
			t.Fatalf("%v", a)
		}
	}
}

// TestRows has all lists of three elements along each axis, where all ways to begin and end beside each other occur.
func TestRows(t *testing.T) {
	for _, grid := range []api.Box{bx(-2, 0, 0, 3, 1, 1), bx(7, -2, 0, 8, 3, 1), bx(0, 0, -2, 1, 1, 3)} {
		all := allBoxes(grid)
		for i := range len(all) * len(all) * len(all) {
			list := []api.Evidence{sound("a", all[i%len(all)]), flawed("b", all[i/len(all)%len(all)]), {Source: "c", Box: all[i/len(all)/len(all)], State: 1 + i%2}}
			checkBoxOf(t, list, grid)
			for k := range list {
				if useless, _ := Useless(list, k); useless != modelUseless(list, k) {
					t.Errorf("Useless of %d", k)
				}
			}
			if t.Failed() {
				t.Fatalf("%v", list)
			}
		}
	}
}

func TestSources(t *testing.T) {
	list := []api.Evidence{sound("z", cube(0, 2)), flawed("b", cube(0, 2)), sound("b", cube(0, 3)), sound("B", cube(0, 3)), sound("10", cube(0, 2)), sound("9", cube(0, 2)), sound("c", cube(1, 3))}
	for _, c := range []struct {
		cell api.Vec
		want []string
	}{
		{vec(0, 0, 0), []string{"10", "9", "B", "b", "z"}},
		{vec(1, 1, 1), []string{"10", "9", "B", "b", "c", "z"}},
		{vec(2, 2, 2), []string{"B", "b", "c"}},
		{vec(0, 2, 2), []string{"B", "b"}},
		{vec(3, 0, 0), nil},
	} {
		if names, e := Sources(list, c.cell); !slices.Equal(names, c.want) || e != api.OK {
			t.Errorf("%v: %q, %d, want %q", c.cell, names, e, c.want)
		}
	}
}

func TestWithout(t *testing.T) {
	list := []api.Evidence{sound("a", cube(0, 2)), flawed("b", cube(0, 2)), sound("b", cube(0, 3)), sound("c", cube(0, 3)), flawed("b", cube(0, 1)), sound("a", cube(0, 2))}
	for _, c := range []struct {
		source string
		want   []api.Evidence
	}{
		{"a", list[1:5]},
		{"b", []api.Evidence{list[0], list[3], list[5]}},
		{"c", []api.Evidence{list[0], list[1], list[2], list[4], list[5]}},
		{"d", list},
		{"A", list},
		{"", list},
		{" no label \"\n", list},
	} {
		before := slices.Clone(list)
		rest, e := Without(list, c.source)
		if !slices.Equal(rest, c.want) || e != api.OK || !slices.Equal(list, before) {
			t.Errorf("without %q: %v, %d", c.source, rest, e)
		}
		for i := range rest {
			rest[i] = api.Evidence{}
		}
		if !slices.Equal(list, before) {
			t.Errorf("without %q: the result shares memory with the argument", c.source)
		}
	}
	if rest, e := Without(many(3), "a"); len(rest) != 0 || e != api.OK {
		t.Errorf("%v, %d", rest, e)
	}
	if rest, e := Without(nil, "a"); len(rest) != 0 || e != api.OK {
		t.Errorf("%v, %d", rest, e)
	}
}

func TestClashes(t *testing.T) {
	list := []api.Evidence{sound("a", cube(0, 4)), flawed("b", cube(2, 6)), sound("c", cube(5, 8)), flawed("d", bx(4, 0, 0, 6, 4, 4)), flawed("e", cube(0, 1)), sound("f", cube(0, 9))}
	want := [][2]int{{0, 1}, {0, 4}, {1, 2}, {1, 5}, {3, 5}, {4, 5}}
	pairs, e := Clashes(list)
	if !slices.Equal(pairs, want) || e != api.OK {
		t.Errorf("%v, %d, want %v", pairs, e, want)
	}
	var half []api.Evidence
	for i := range 256 {
		half = append(half, api.Evidence{Source: "a", Box: cube(0, 1+i), State: 1 + i/128})
	}
	if pairs, e := Clashes(half); len(pairs) != 128*128 || pairs[129] != [2]int{1, 129} || e != api.OK {
		t.Errorf("%d pairs, %d", len(pairs), e)
	}
}

// TestUseless has evidence that only several others together make useless.
func TestUseless(t *testing.T) {
	list := []api.Evidence{
		sound("a", cube(0, 4)),
		sound("b", bx(0, 0, 0, 4, 4, 2)), sound("c", bx(0, 0, 2, 4, 3, 4)), sound("d", bx(-5, 3, 2, 9, 9, 9)),
		flawed("e", bx(0, 0, 0, 4, 4, 3)), flawed("f", cube(1, 2)), flawed("g", bx(3, 3, 2, 4, 4, 4)),
	}
	for i, want := range []bool{true, true, true, false, false, true, false} {
		if useless, e := Useless(list, i); useless != want || e != api.OK {
			t.Errorf("%d: %v, %d", i, useless, e)
		}
	}
	list[2].Box.Max.X = 3
	for i, want := range []bool{false, true, true, false, false, true, false} {
		if useless, e := Useless(list, i); useless != want || e != api.OK {
			t.Errorf("%d, with a gap: %v, %d", i, useless, e)
		}
	}
	twice := slices.Repeat([]api.Evidence{sound("a", cube(-top, top))}, 2)
	if useless, e := Useless(twice, 1); !useless || e != api.OK {
		t.Errorf("all of the rock twice: %v, %d", useless, e)
	}
}

func TestLimits(t *testing.T) {
	everything := cube(-top, top)
	const whole = 8 * top * top * top
	for state, want := range []int64{0, whole, 0, 0} {
		if volume, e := Volume([]api.Evidence{sound("a", everything)}, everything, state); volume != want || e != api.OK {
			t.Errorf("Volume of %d is %d, %d", state, volume, e)
		}
	}
	if volume, e := Volume(nil, everything, api.Unseen); volume != whole || e != api.OK {
		t.Errorf("Volume of nothing is %d, %d", volume, e)
	}
	list := []api.Evidence{sound("a", everything), flawed("b", cube(top-1, top)), flawed("c", cube(-top, 1-top))}
	for state, want := range []int64{0, whole - 2, 0, 2} {
		if volume, e := Volume(list, everything, state); volume != want || e != api.OK {
			t.Errorf("Volume of %d with two cells is %d, %d", state, volume, e)
		}
	}
	if cell, e := First(list, bx(-top, -top, 1-top, top, top, top), api.Clash); cell != vec(top-1, top-1, top-1) || e != api.OK {
		t.Errorf("First is %v, %d", cell, e)
	}
	for _, corner := range []api.Vec{vec(-top, -top, -top), vec(top-1, top-1, top-1)} {
		if state, e := State(list, corner); state != api.Clash || e != api.OK {
			t.Errorf("State of %v is %d, %d", corner, state, e)
		}
		if names, e := Sources(list[:1], corner); !slices.Equal(names, []string{"a"}) || e != api.OK {
			t.Errorf("Sources of %v is %q, %d", corner, names, e)
		}
	}
}

// TestMuchEvidence has as much evidence as possible, in arrangements that divide a box into very many parts.
func TestMuchEvidence(t *testing.T) {
	const n = api.MaxEvidence
	var nested, stairs, rows []api.Evidence
	for i := range n {
		state := 1 + i%2
		nested = append(nested, api.Evidence{Source: "n", Box: cube(i, 2*n-i), State: state})
		stairs = append(stairs, api.Evidence{Source: "s", Box: cube(i, n+i), State: state})
		rows = append(rows, api.Evidence{Source: "r", Box: bx(2*i, 2*i, 2*i, 2*i+1, 2*n, 2*n), State: state})
	}
	side := func(length int64) int64 { return length * length * length }
	// Of cubes that are each some cells further on all axes, each but the first one adds the same volume.
	steps := func(count, by int64) int64 { return side(n) + (count-1)*(side(n)-side(n-by)) }
	one, both := steps(n/2, 2), steps(n, 1)
	for _, c := range []struct {
		name   string
		list   []api.Evidence
		volume [4]int64
		clash  api.Vec
	}{
		{"nested", nested, [4]int64{0, side(2*n) - side(2*n-2), 0, side(2*n - 2)}, vec(1, 1, 1)},
		{"stairs", stairs, [4]int64{side(2*n) - both, both - one, both - one, 2*one - both}, vec(1, 1, 1)},
		{"rows", rows, [4]int64{side(2*n) - rowsVolume(n, 0) - rowsVolume(n, 1), rowsVolume(n, 0), rowsVolume(n, 1), 0}, vec(0, 0, 0)},
	} {
		for state, want := range c.volume {
			if volume, e := Volume(c.list, cube(0, 2*n), state); volume != want || e != api.OK {
				t.Errorf("%s: Volume of %d is %d, %d, want %d", c.name, state, volume, e, want)
			}
		}
		if cell, _ := First(c.list, cube(0, 2*n), api.Clash); cell != c.clash {
			t.Errorf("%s: First is %v", c.name, cell)
		}
		for _, i := range []int{0, 1, 2, n / 2, n - 1} {
			want := c.name == "nested" && i > 1
			if useless, e := Useless(c.list, i); useless != want || e != api.OK {
				t.Errorf("%s: Useless of %d is %v, %d", c.name, i, useless, e)
			}
		}
	}
}

// rowsVolume returns the volume of those of the rows that have one of the two states.
func rowsVolume(n, odd int64) int64 {
	sum := int64(0)
	for i := odd; i < n; i += 2 {
		sum += (2*n - 2*i) * (2*n - 2*i)
	}
	return sum
}

// states returns the states of the cells of a box.
func states(t *testing.T, list []api.Evidence, b api.Box) []int {
	t.Helper()
	var out []int
	for _, cell := range cellsOf(b) {
		state, e := State(list, cell)
		if e != api.OK {
			t.Errorf("State of %v: %d", cell, e)
		}
		out = append(out, state)
	}
	return out
}

func volumes(list []api.Evidence, b api.Box) [4]int64 {
	var out [4]int64
	for state := range out {
		out[state], _ = Volume(list, b, state)
	}
	return out
}

// TestLaws has the consequences of P15.5 at drawn evidence.
func TestLaws(t *testing.T) {
	next := draw(5)
	around := cube(-3, 4)
	for i := range 600 {
		list := drawList(next, 1+i%8, around)
		b := drawBox(next, around)
		before, volume := states(t, list, around), volumes(list, b)
		mixed := append(slices.Clone(list), list[next(len(list))], list[next(len(list))])
		for k := range mixed {
			with := next(k + 1)
			mixed[k], mixed[with] = mixed[with], mixed[k]
		}
		if !slices.Equal(states(t, mixed, around), before) || volumes(mixed, b) != volume {
			t.Errorf("the order and the repetition matter")
		}
		more := append(slices.Clone(list), drawList(next, 1+next(3), around)...)
		for k, state := range states(t, more, around) {
			if joined, _ := Join(state, before[k]); joined != state {
				t.Errorf("more evidence lowers %d to %d", before[k], state)
			}
		}
		if volume[0]+volume[1]+volume[2]+volume[3] != int64(len(cellsOf(b))) {
			t.Errorf("the volumes %v do not add up", volume)
		}
		_, e := First(list, around, api.Clash)
		if pairs, _ := Clashes(list); (len(pairs) > 0) != (e == api.OK) {
			t.Errorf("the clashes are %v, but First gives %d", pairs, e)
		}
		k := next(len(list))
		for _, index := range []int{k, len(list)} {
			if useless, e := Useless(append(slices.Clone(list), list[k]), index); !useless || e != api.OK {
				t.Errorf("what is given twice is of use")
			}
		}
		if t.Failed() {
			t.Fatalf("%v, %v", list, b)
		}
	}
}
