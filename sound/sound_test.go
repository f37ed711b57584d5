package sound

import (
	"math"
	"slices"
	"strings"
	"testing"

	"gangsaw/api"
	"gangsaw/box"
)

func TestExamples(t *testing.T) {
	s, list := example()
	for _, c := range []struct {
		b    api.Box
		want Witness
	}{
		{bx(0, 0, 0, 5, 5, 4), Witness{}},
		{bx(0, 0, 0, 5, 5, 5), Witness{Kind: Bed, Name: "b"}},
		{bx(0, 0, 4, 5, 5, 9), Witness{Kind: Cell, Cell: vec(0, 0, 8), State: api.Unseen}},
		{bx(5, 0, 0, 10, 5, 4), Witness{Kind: Flaw, Name: "f"}},
	} {
		if w, e := Find(s, list, c.b); w != c.want || e != api.OK {
			t.Errorf("%v: %v, %d, want %v", c.b, w, e, c.want)
		}
		if sound, e := Is(s, list, c.b); sound != (c.want.Kind == None) || e != api.OK {
			t.Errorf("%v: Is gives %v, %d", c.b, sound, e)
		}
		if !Verify(s, list, c.b, c.want) {
			t.Errorf("%v: Verify refuses %v", c.b, c.want)
		}
	}
	if r, e := Range(s, list, bx(5, 0, 0, 10, 5, 4), api.AxisX); r != (api.Interval{Lo: 5, Hi: 7}) || e != api.OK {
		t.Errorf("Range: %v, %d", r, e)
	}
	if parts, e := Pieces(s, list, bx(0, 0, 0, 5, 5, 8)); !slices.Equal(parts, []api.Box{bx(0, 0, 0, 5, 5, 4), bx(0, 0, 4, 5, 5, 8)}) || e != api.OK {
		t.Errorf("Pieces: %v, %d", parts, e)
	}
	if n, e := Unseen(s, list, bx(0, 0, 4, 5, 5, 9)); n != 25 || e != api.OK {
		t.Errorf("Unseen: %d, %d", n, e)
	}
}

// TestFind has the kinds of witnesses in their order, and of each kind the least one.
func TestFind(t *testing.T) {
	cell := func(x, y, z, state int) Witness { return Witness{Kind: Cell, Cell: vec(x, y, z), State: state} }
	named := func(kind int, name string) Witness { return Witness{Kind: kind, Name: name} }
	flawed := []api.Evidence{says(cube(-10, 10), api.Sound), says(cube(4, 5), api.Flawed)}
	several := []api.Evidence{says(bx(-10, -10, -10, 10, 10, 3), api.Sound), says(bx(-10, -10, 3, 10, 10, 10), api.Flawed), says(bx(2, 2, 2, 3, 3, 4), api.Flawed), says(bx(7, 1, 2, 8, 2, 3), api.Flawed)}
	for _, c := range []struct {
		name string
		list []api.Evidence
		b    api.Box
		want Witness
	}{
		{"the pit", allSound(), cube(-10, 10), named(Flaw, "a")},
		{"the pit without evidence", nil, cube(-10, 10), cell(-10, -10, -10, api.Unseen)},
		{"beyond the pit without evidence", nil, cube(-11, 10), Witness{Kind: Beyond}},
		{"beyond Max.X", allSound(), bx(0, 0, 0, 11, 1, 1), Witness{Kind: Beyond}},
		{"beyond Max.Y", allSound(), bx(0, 0, 0, 1, 11, 1), Witness{Kind: Beyond}},
		{"beyond Max.Z", allSound(), bx(0, 0, 0, 1, 1, 11), Witness{Kind: Beyond}},
		{"beyond Min.Y", allSound(), bx(0, -11, 0, 1, 1, 1), Witness{Kind: Beyond}},
		{"beside the pit", allSound(), bx(10, 0, 0, 11, 1, 1), Witness{Kind: Beyond}},
		{"flawed", flawed, cube(-10, 10), cell(4, 4, 4, api.Clash)},
		{"the least z before the least y", several, cube(0, 5), cell(2, 2, 2, api.Clash)},
		{"the least y before the least x", several, bx(0, 0, 2, 9, 5, 5), cell(7, 1, 2, api.Clash)},
		{"a flaw and beds", allSound(), bx(-10, -10, -10, -4, -4, 10), named(Flaw, "h")},
		{"the bed with the least name", allSound(), bx(-10, 0, -7, 10, 10, 6), named(Bed, "c")},
		{"one bed", allSound(), bx(-10, 0, -7, 10, 10, 0), named(Bed, "z")},
		{"two joints", allSound(), bx(-10, 0, 1, 10, 10, 4), named(Joint, "d")},
		{"a joint along x", allSound(), bx(-10, -9, 1, 10, 5, 4), named(Joint, "e")},
		{"no joint at this z", allSound(), bx(-10, -3, 0, 5, 5, 5), named(Joint, "e")},
		{"above the joint", allSound(), bx(-10, -3, 4, 5, 5, 5), Witness{}},
		{"between all", allSound(), bx(-5, -10, 0, 5, 5, 5), Witness{}},
	} {
		w, e := Find(rich(), c.list, c.b)
		if w != c.want || e != api.OK {
			t.Errorf("%s: %v, %d, want %v", c.name, w, e, c.want)
		}
		if sound, e := Is(rich(), c.list, c.b); sound != (c.want == Witness{}) || e != api.OK {
			t.Errorf("%s: Is gives %v, %d", c.name, sound, e)
		}
	}
}

// TestCellBesideCell has pairs of cells that are not sound for different reasons, so that no state alone decides which is the first.
func TestCellBesideCell(t *testing.T) {
	s := api.Survey{Pit: cube(-1, 1)}
	cells := cellsOf(s.Pit)
	unit := func(p api.Vec) api.Box { return bx(p.X, p.Y, p.Z, p.X+1, p.Y+1, p.Z+1) }
	for i := range cells {
		for k := range cells {
			for states := range 9 {
				var list []api.Evidence
				for n, p := range cells {
					kind := api.Sound
					if n == i {
						kind = []int{api.Unseen, api.Flawed, api.Clash}[states%3]
					} else if n == k {
						kind = []int{api.Unseen, api.Flawed, api.Clash}[states/3]
					}
					if kind == api.Sound || kind == api.Clash {
						list = append(list, says(unit(p), api.Sound))
					}
					if kind == api.Flawed || kind == api.Clash {
						list = append(list, says(unit(p), api.Flawed))
					}
				}
				want := modelFirst(modelWitnesses(s, list, s.Pit))
				if w, e := Find(s, list, s.Pit); w != want || e != api.OK {
					t.Fatalf("%v and %v: %v, %d, want %v", cells[i], cells[k], w, e, want)
				}
			}
		}
	}
}

// breakers are changes that lead to the errors in their order.
var breakers = []struct {
	code  api.Errno
	apply func(q *question)
}{
	{api.ErrTooMany, func(q *question) { q.s.Beds = make([]api.Bed, 65) }},
	{api.ErrName, func(q *question) { q.s.Joints[1].Name = "" }},
	{api.ErrConflict, func(q *question) { q.s.Flaws[0] = flaw("a", -10, -8, 0, 0, 0, 4, 4, 0) }},
	{api.ErrDuplicate, func(q *question) { q.s.Joints[2].Name = "d" }},
	{api.ErrTooMany, func(q *question) { q.list = slices.Repeat(q.list, 257) }},
	{api.ErrName, func(q *question) { q.list[0].Source = " " }},
	{api.ErrInvalid, func(q *question) { q.list[0].Box = cube(3, 3) }},
	{api.ErrInvalid, func(q *question) { q.list[0].State = api.Clash }},
	{api.ErrRange, func(q *question) { q.b.Max.Y = top + 1 }},
	{api.ErrInvalid, func(q *question) { q.b.Max.X = q.b.Min.X }},
}

// question is what the functions are asked.
type question struct {
	s    api.Survey
	list []api.Evidence
	b    api.Box
	axis int
}

// checkErrors checks that the functions give these errors, and with an error nothing else.
func checkErrors(t *testing.T, name string, q question, all, ofRange, ofPieces api.Errno) {
	t.Helper()
	if w, e := Find(q.s, q.list, q.b); e != all || e != api.OK && w != (Witness{}) {
		t.Errorf("%s: Find gives %v, %d, want %d", name, w, e, all)
	}
	if sound, e := Is(q.s, q.list, q.b); e != all || e != api.OK && sound {
		t.Errorf("%s: Is gives %v, %d, want %d", name, sound, e, all)
	}
	if n, e := Unseen(q.s, q.list, q.b); e != all || e != api.OK && n != 0 {
		t.Errorf("%s: Unseen gives %v, %d, want %d", name, n, e, all)
	}
	if r, e := Range(q.s, q.list, q.b, q.axis); e != ofRange || e != api.OK && r != (api.Interval{}) {
		t.Errorf("%s: Range gives %v, %d, want %d", name, r, e, ofRange)
	}
	if parts, e := Pieces(q.s, q.list, q.b); e != ofPieces || e != api.OK && parts != nil {
		t.Errorf("%s: Pieces gives %v, %d, want %d", name, parts, e, ofPieces)
	}
	if all == api.OK {
		return
	}
	for _, w := range []Witness{{}, {Kind: Beyond}, {Kind: Cell, Cell: q.b.Min}, {Kind: Flaw, Name: "a"}, {Kind: Bed, Name: "c"}, {Kind: Joint, Name: "d"}} {
		if Verify(q.s, q.list, q.b, w) {
			t.Errorf("%s: Verify accepts %v", name, w)
		}
	}
}

func TestErrors(t *testing.T) {
	for i, first := range breakers {
		for _, other := range breakers[i:] {
			for _, axis := range []int{api.AxisX, api.AxisZ, 3, -1} {
				q := question{rich(), allSound(), cube(0, 3), axis}
				other.apply(&q)
				first.apply(&q)
				checkErrors(t, "two errors", q, first.code, first.code, first.code)
				q.b.Min.Z = -20
				checkErrors(t, "two errors and a box outside", q, first.code, first.code, first.code)
				if t.Failed() {
					t.Fatalf("with the errors %d and %d", first.code, other.code)
				}
			}
		}
	}
	for _, c := range []struct {
		name              string
		b                 api.Box
		axis              int
		ofRange, ofPieces api.Errno
	}{
		{"all right", cube(0, 3), api.AxisX, api.OK, api.OK},
		{"the axis z", cube(0, 3), api.AxisZ, api.OK, api.OK},
		{"the axis 3", cube(0, 3), 3, api.ErrInvalid, api.OK},
		{"the axis -1", cube(0, 3), -1, api.ErrInvalid, api.OK},
		{"the greatest axis", cube(0, 3), math.MaxInt, api.ErrInvalid, api.OK},
		{"the least axis", cube(0, 3), math.MinInt, api.ErrInvalid, api.OK},
		{"a box outside", cube(0, 11), api.AxisY, api.ErrOutside, api.ErrOutside},
		{"a box far outside", cube(top-1, top), api.AxisY, api.ErrOutside, api.ErrOutside},
		{"a box around the pit", cube(-top, top), api.AxisY, api.ErrOutside, api.ErrOutside},
		{"no axis and a box outside", cube(0, 11), 3, api.ErrInvalid, api.ErrOutside},
		{"no axis and a box that begins unsound", bx(-4, 0, -9, 4, 1, 1), 3, api.ErrInvalid, api.OK},
		{"a box that begins in a flaw", bx(0, 0, -9, 4, 1, 1), api.AxisX, api.ErrNone, api.OK},
	} {
		checkErrors(t, c.name, question{rich(), allSound(), c.b, c.axis}, api.OK, c.ofRange, c.ofPieces)
	}
}

// candidates returns what could be witnesses, true or not, of boxes in and around a pit.
func candidates(s api.Survey) []Witness {
	names := []string{"", "x", "B"}
	for _, x := range s.Beds {
		names = append(names, x.Name)
	}
	for _, j := range s.Joints {
		names = append(names, j.Name)
	}
	for _, f := range s.Flaws {
		names = append(names, f.Name)
	}
	cells := []api.Vec{{}, {X: 1}, s.Pit.Min, vec(top, 0, 0), vec(0, math.MinInt, 0)}
	around := api.Box{Min: vec(s.Pit.Min.X-1, s.Pit.Min.Y-1, s.Pit.Min.Z-1), Max: vec(s.Pit.Max.X+1, s.Pit.Max.Y+1, s.Pit.Max.Z+1)}
	var out []Witness
	for _, kind := range []int{-1, None, Cell, Flaw, Bed, Joint, Beyond, 6, math.MaxInt, math.MinInt} {
		for _, name := range names {
			for _, cell := range cells {
				for state := range 4 {
					out = append(out, Witness{kind, name, cell, state})
				}
			}
		}
	}
	for _, cell := range cellsOf(around) {
		for state := -1; state <= 4; state++ {
			out = append(out, Witness{Kind: Cell, Cell: cell, State: state}, Witness{Kind: Cell, Name: "x", Cell: cell, State: state})
		}
	}
	return out
}

// checkBoxOf holds what the functions say of a box against the definitions.
func checkBoxOf(t *testing.T, s api.Survey, list []api.Evidence, b api.Box) {
	t.Helper()
	all := modelWitnesses(s, list, b)
	want := modelFirst(all)
	if w, e := Find(s, list, b); w != want || e != api.OK || !Verify(s, list, b, w) {
		t.Errorf("%v: Find gives %v, %d, want %v", b, w, e, want)
	}
	if sound, e := Is(s, list, b); sound != (len(all) == 0) || e != api.OK {
		t.Errorf("%v: Is gives %v, %d", b, sound, e)
	}
	unseen := int64(0)
	for _, cell := range cellsOf(b) {
		if stateOf(list, cell) == api.Unseen {
			unseen++
		}
	}
	if n, e := Unseen(s, list, b); n != unseen || e != api.OK {
		t.Errorf("%v: Unseen gives %d, %d, want %d", b, n, e, unseen)
	}
	if want.Kind == Beyond {
		checkErrors(t, "a box outside", question{s, list, b, 0}, api.OK, api.ErrOutside, api.ErrOutside)
		return
	}
	for axis, from := range []int{b.Min.X, b.Min.Y, b.Min.Z} {
		code, interval := api.ErrNone, api.Interval{}
		if length := modelLength(s, list, b, axis); length > 0 {
			code, interval = api.OK, api.Interval{Lo: from, Hi: from + length - 1}
		}
		if r, e := Range(s, list, b, axis); r != interval || e != code {
			t.Errorf("%v: Range along %d gives %v, %d, want %v", b, axis, r, e, interval)
		}
	}
	if parts, e := Pieces(s, list, b); !slices.Equal(parts, modelPieces(s, list, b)) || e != api.OK {
		t.Errorf("%v: Pieces gives %v, %d, want %v", b, parts, e, modelPieces(s, list, b))
	}
}

func TestDrawnSurveys(t *testing.T) {
	next := draw(16)
	for range 1500 {
		s := drawSurvey(next)
		list := drawEvidence(next, s.Pit)
		before, said := copyOf(s), slices.Clone(list)
		checkBoxOf(t, s, list, s.Pit)
		for range 8 {
			checkBoxOf(t, s, list, drawBox(next, s.Pit))
		}
		at := vec(s.Pit.Min.X-1, s.Pit.Min.Y-1, s.Pit.Min.Z-1)
		checkBoxOf(t, s, list, drawBox(next, api.Box{Min: at, Max: vec(at.X+7, at.Y+7, at.Z+7)}))
		if !slices.Equal(list, said) || !slices.Equal(s.Beds, before.Beds) || !slices.Equal(s.Joints, before.Joints) || len(s.Flaws) != len(before.Flaws) || t.Failed() {
			t.Fatalf("%v, %v", s, list)
		}
		for i, f := range s.Flaws {
			if f.Name != before.Flaws[i].Name || !slices.Equal(f.Prism.Base, before.Flaws[i].Prism.Base) {
				t.Fatalf("the flaws %v were changed to %v", before.Flaws, s.Flaws)
			}
		}
	}
}

// TestVerify tries all kinds of right and wrong witnesses.
func TestVerify(t *testing.T) {
	next := draw(6)
	accepted := map[int]int{}
	for range 150 {
		s := drawSurvey(next)
		list := drawEvidence(next, s.Pit)
		for i := range 4 {
			b := drawBox(next, s.Pit)
			if i == 0 {
				b.Max.X += next(9)
			}
			all := modelWitnesses(s, list, b)
			for _, w := range append(candidates(s), all...) {
				want := slices.Contains(all, w) || len(all) == 0 && w == Witness{}
				if got := Verify(s, list, b, w); got != want {
					t.Fatalf("%v, %v, %v: Verify of %v is %v", s, list, b, w, got)
				}
				if want {
					accepted[w.Kind]++
				}
			}
		}
	}
	for kind := None; kind <= Beyond; kind++ {
		if accepted[kind] == 0 {
			t.Errorf("no witness of the kind %d", kind)
		}
	}
}

// TestAllBoxes has all boxes of a pit with a part of each kind.
func TestAllBoxes(t *testing.T) {
	s := api.Survey{
		Pit:    bx(-1, 0, 1, 2, 3, 5),
		Beds:   []api.Bed{bed("y", 2), bed("b", 3)},
		Joints: []api.Joint{joint("i", api.AxisX, 0, 2, 3), joint("j", api.AxisX, 0, 4, 5), joint("k", api.AxisY, 2, 1, 3)},
		Flaws:  []api.Flaw{flaw("f", 4, 5, 0, 0, 2, 0, 2, 2)},
	}
	list := []api.Evidence{says(bx(-1, 0, 1, 2, 3, 5), api.Sound), says(bx(1, 2, 3, 2, 3, 4), api.Flawed)}
	for _, b := range boxesIn(s.Pit) {
		checkBoxOf(t, s, list, b)
		checkBoxOf(t, s, list[:1], b)
		checkBoxOf(t, s, []api.Evidence{says(bx(-1, 0, 1, 2, 3, 4), api.Sound)}, b)
	}
}

// TestPieces has joints that pass through a box in some of its layers only, and several at one place.
func TestPieces(t *testing.T) {
	s := api.Survey{
		Pit:    cube(0, 10),
		Beds:   []api.Bed{bed("z", 5), bed("b", 10)},
		Joints: []api.Joint{joint("e", api.AxisY, 4, 0, 1), joint("i", api.AxisX, 3, 0, 2), joint("j", api.AxisX, 3, 8, 10), joint("k", api.AxisX, 7, 9, 10)},
		Flaws:  []api.Flaw{flaw("f", 0, 10, 0, 0, 3, 0, 0, 3)},
	}
	list := []api.Evidence{says(cube(0, 10), api.Sound), says(bx(8, 8, 8, 9, 9, 9), api.Flawed)}
	for _, c := range []struct {
		b    api.Box
		want []api.Box
	}{
		{cube(0, 10), []api.Box{
			bx(3, 0, 0, 7, 4, 5), bx(7, 0, 0, 10, 4, 5), bx(0, 4, 0, 3, 10, 5), bx(3, 4, 0, 7, 10, 5), bx(7, 4, 0, 10, 10, 5),
			bx(3, 0, 5, 7, 4, 10), bx(7, 0, 5, 10, 4, 10), bx(0, 4, 5, 3, 10, 10), bx(3, 4, 5, 7, 10, 10),
		}},
		{bx(3, 0, 1, 10, 10, 9), []api.Box{bx(3, 0, 1, 10, 10, 5)}},
		{bx(1, 3, 0, 10, 9, 5), []api.Box{bx(1, 3, 0, 3, 4, 5), bx(3, 3, 0, 10, 4, 5), bx(1, 4, 0, 3, 9, 5), bx(3, 4, 0, 10, 9, 5)}},
		{bx(0, 3, 2, 8, 10, 8), []api.Box{bx(0, 3, 2, 8, 10, 5), bx(0, 3, 5, 8, 10, 8)}},
		{cube(8, 9), nil},
	} {
		if parts, e := Pieces(s, list, c.b); !slices.Equal(parts, c.want) || e != api.OK {
			t.Errorf("%v: %v, %d, want %v", c.b, parts, e, c.want)
		}
	}
}

// TestLimits has as many beds, joints, flaws and evidence as possible, in the greatest pit.
func TestLimits(t *testing.T) {
	s := api.Survey{Pit: cube(-top, top)}
	const step = 2 * top / 65
	name := func(letter string, i int) string { return letter + string(rune('a'+i/26)) + string(rune('a'+i%26)) }
	for i := range 64 {
		at := -top + (i+1)*step
		s.Beds = append(s.Beds, bed(name("b", i), at))
		s.Joints = append(s.Joints, joint(name("j", i), api.AxisX, at, -top, top))
		s.Flaws = append(s.Flaws, flaw(name("f", i), at, at+1, at, at, at+1, at, at, at+1))
	}
	for i := range 64 {
		s.Joints = append(s.Joints, joint(name("k", i), api.AxisY, -top+(i+1)*step, 0, 1))
	}
	list := make([]api.Evidence, 256)
	for i := range list {
		list[i] = says(bx(-top, -top, -top+i, top, top, top), api.Sound)
	}
	parts, e := Pieces(s, list, s.Pit)
	if len(parts) != 65*65*65-64 || e != api.OK || parts[0] != cube(-top, step-top) {
		t.Errorf("%d parts, %d", len(parts), e)
	}
	if w, e := Find(s, list, s.Pit); w != (Witness{Kind: Flaw, Name: "faa"}) || e != api.OK {
		t.Errorf("Find: %v, %d", w, e)
	}
	low := bx(-top, -top, -top, top, top, step-top)
	if w, e := Find(s, list, low); w != (Witness{Kind: Joint, Name: "jaa"}) || e != api.OK {
		t.Errorf("Find: %v, %d", w, e)
	}
	for axis, want := range []int{step - top - 1, top - 1, step - top - 1} {
		b := bx(-top, -top, -top, top, top, top)
		if axis != api.AxisX {
			b.Max.X = step - top
		}
		if axis != api.AxisZ {
			b.Max.Z = step - top
		}
		if r, e := Range(s, list, b, axis); r != (api.Interval{Lo: -top, Hi: want}) || e != api.OK {
			t.Errorf("Range along %d: %v, %d", axis, r, e)
		}
	}
	if n, e := Unseen(s, nil, s.Pit); n != 8*top*top*top || e != api.OK {
		t.Errorf("Unseen: %d, %d", n, e)
	}
	s.Beds, s.Joints, s.Flaws = nil, nil, nil
	for axis := range 3 {
		if r, e := Range(s, list, s.Pit, axis); r != (api.Interval{Lo: -top, Hi: top - 1}) || e != api.OK {
			t.Errorf("Range of all along %d: %v, %d", axis, r, e)
		}
	}
	if parts, e := Pieces(s, list, s.Pit); !slices.Equal(parts, []api.Box{s.Pit}) || e != api.OK {
		t.Errorf("Pieces of all: %v, %d", parts, e)
	}
}

// TestNames has parts of a survey whose names differ only at the end, and are as long as possible.
func TestNames(t *testing.T) {
	long := strings.Repeat("n", 23)
	s := api.Survey{Pit: cube(0, 9), Beds: []api.Bed{bed(long+"c", 2), bed(long+"b", 4), bed(long+"d", 6)}, Joints: []api.Joint{joint(long+"a", api.AxisX, 3, 0, 9)}}
	list := []api.Evidence{says(cube(0, 9), api.Sound)}
	for _, c := range []struct {
		b    api.Box
		want Witness
	}{
		{cube(0, 9), Witness{Kind: Bed, Name: long + "b"}},
		{bx(0, 0, 0, 9, 9, 4), Witness{Kind: Bed, Name: long + "c"}},
		{bx(0, 0, 4, 9, 9, 9), Witness{Kind: Bed, Name: long + "d"}},
		{bx(0, 0, 4, 9, 9, 6), Witness{Kind: Joint, Name: long + "a"}},
	} {
		if w, e := Find(s, list, c.b); w != c.want || e != api.OK {
			t.Errorf("%v: %v, %d", c.b, w, e)
		}
	}
	if Verify(s, list, s.Pit, Witness{Kind: Bed, Name: long + "a"}) || Verify(s, list, s.Pit, Witness{Kind: Joint, Name: long + "b"}) || !Verify(s, list, s.Pit, Witness{Kind: Joint, Name: long + "a"}) {
		t.Error("a bed is taken for a joint")
	}
}

// TestLaws has the consequences of P16.5 at drawn surveys.
func TestLaws(t *testing.T) {
	next := draw(8)
	sounds, filled := 0, 0
	for range 3000 {
		s := drawSurvey(next)
		list, more := drawEvidence(next, s.Pit), drawEvidence(next, s.Pit)
		b := drawBox(next, s.Pit)
		before, _ := Find(s, list, b)
		unseen, _ := Unseen(s, list, b)
		parts, _ := Pieces(s, list, b)
		if !Verify(s, list, b, before) {
			t.Errorf("Verify refuses %v", before)
		}
		if before.Kind == None {
			sounds++
			for range 5 {
				if sound, e := Is(s, list, drawBox(next, b)); !sound || e != api.OK {
					t.Errorf("a box inside a sound one is not sound")
				}
			}
			if unseen != 0 || !slices.Equal(parts, []api.Box{b}) {
				t.Errorf("a sound box has %d unseen cells and the parts %v", unseen, parts)
			}
		}
		if after, _ := Find(s, append(slices.Clone(list), more...), b); before.Kind != None && after.Kind == None {
			filled++
			if unseen == 0 || before.Kind != Cell || before.State != api.Unseen {
				t.Errorf("the witness %v was taken away", before)
			}
			if slices.ContainsFunc(modelWitnesses(s, list, b), func(w Witness) bool { return w.Kind != Cell }) {
				t.Errorf("a flaw, bed or joint was taken away")
			}
		}
		if _, _, e := box.Clash(parts); e != api.ErrNone {
			t.Errorf("the parts %v overlap", parts)
		}
		for axis, size := range []int{b.Max.X - b.Min.X, b.Max.Y - b.Min.Y, b.Max.Z - b.Min.Z} {
			cells := 0
			if r, e := Range(s, list, b, axis); e == api.OK {
				cells = r.Hi - r.Lo + 1
				if sound, _ := Is(s, list, longer(b, axis, cells)); !sound {
					t.Errorf("the range %v is not sound", r)
				}
			}
			if cells < size {
				if sound, _ := Is(s, list, longer(b, axis, cells+1)); sound {
					t.Errorf("a box with %d cells along %d is sound", cells+1, axis)
				}
			}
		}
		if t.Failed() {
			t.Fatalf("%v, %v, %v", s, list, b)
		}
	}
	if sounds < 300 || filled < 100 {
		t.Errorf("%d sound boxes, and %d that evidence made sound", sounds, filled)
	}
}
