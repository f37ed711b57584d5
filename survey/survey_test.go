package survey

import (
	"math"
	"slices"
	"strings"
	"testing"

	"gangsaw/api"
	"gangsaw/polygon"
)

func TestExamples(t *testing.T) {
	s := example()
	if e := Check(s); e != api.OK {
		t.Fatalf("Check: %d", e)
	}
	if names, e := Through(s, bx(0, 0, 40, 50, 50, 60)); !slices.Equal(names, []string{"b", "j"}) || e != api.OK {
		t.Errorf("Through: %q, %d", names, e)
	}
	if names, e := Through(s, bx(30, 0, 50, 50, 50, 60)); len(names) != 0 || e != api.OK {
		t.Errorf("Through: %q, %d", names, e)
	}
	if set, e := Jointed(s, bx(30, 0, 40, 50, 50, 70), api.MinusX); !slices.Equal(set, []api.Interval{{Lo: 40, Hi: 59}}) || e != api.OK {
		t.Errorf("Jointed: %v, %d", set, e)
	}
}

// checks are surveys with what Check says of them.
var checks = []struct {
	name   string
	change func(s *api.Survey)
	want   api.Errno
}{
	{"nothing changed", func(s *api.Survey) {}, api.OK},
	{"no parts", func(s *api.Survey) { s.Beds, s.Joints, s.Flaws = nil, nil, nil }, api.OK},
	{"empty lists", func(s *api.Survey) { s.Beds, s.Joints, s.Flaws = []api.Bed{}, []api.Joint{}, []api.Flaw{} }, api.OK},
	{"64 beds", func(s *api.Survey) { s.Beds = manyBeds(64) }, api.OK},
	{"65 beds", func(s *api.Survey) { s.Beds = manyBeds(65) }, api.ErrTooMany},
	{"128 joints", func(s *api.Survey) { s.Joints, s.Pit.Max.Z = manyJoints(128), 128 }, api.OK},
	{"129 joints", func(s *api.Survey) { s.Joints, s.Pit.Max.Z = manyJoints(129), 129 }, api.ErrTooMany},
	{"64 flaws", func(s *api.Survey) { s.Flaws = manyFlaws(64) }, api.OK},
	{"65 flaws", func(s *api.Survey) { s.Flaws = manyFlaws(65) }, api.ErrTooMany},
	{"all of them", func(s *api.Survey) {
		s.Beds, s.Joints, s.Flaws, s.Pit.Max.Z = manyBeds(64), manyJoints(128), manyFlaws(64), 128
	}, api.OK},
	{"the greatest pit", func(s *api.Survey) { s.Pit = cube(-top, top) }, api.OK},
	{"Min.X too small", func(s *api.Survey) { s.Pit.Min.X = -top - 1 }, api.ErrRange},
	{"Min.Y too small", func(s *api.Survey) { s.Pit.Min.Y = -top - 1 }, api.ErrRange},
	{"Min.Z too small", func(s *api.Survey) { s.Pit.Min.Z = math.MinInt }, api.ErrRange},
	{"Max.X too great", func(s *api.Survey) { s.Pit.Max.X = top + 1 }, api.ErrRange},
	{"Max.Y too great", func(s *api.Survey) { s.Pit.Max.Y = math.MaxInt }, api.ErrRange},
	{"Max.Z too great", func(s *api.Survey) { s.Pit.Max.Z = top + 1 }, api.ErrRange},
	{"Min.X and Max.X too great", func(s *api.Survey) { s.Pit.Min.X, s.Pit.Max.X = top+1, top+1 }, api.ErrRange},
	{"no x", func(s *api.Survey) { s.Pit.Min.X = s.Pit.Max.X }, api.ErrInvalid},
	{"no y", func(s *api.Survey) { s.Pit.Min.Y = s.Pit.Max.Y }, api.ErrInvalid},
	{"no z", func(s *api.Survey) { s.Pit.Min.Z = s.Pit.Max.Z + 1 }, api.ErrInvalid},
	{"an empty survey", func(s *api.Survey) { *s = api.Survey{} }, api.ErrInvalid},
	{"a bed without a name", func(s *api.Survey) { s.Beds[2].Name = "" }, api.ErrName},
	{"a bed with a label", func(s *api.Survey) { s.Beds[0].Name = "Low" }, api.ErrName},
	{"a joint without a name", func(s *api.Survey) { s.Joints[0].Name = "" }, api.ErrName},
	{"a joint with a blank", func(s *api.Survey) { s.Joints[2].Name = "j c" }, api.ErrName},
	{"a flaw without a name", func(s *api.Survey) { s.Flaws[1].Name = "" }, api.ErrName},
	{"a flaw with 24 bytes", func(s *api.Survey) { s.Flaws[2].Name = strings.Repeat("z", 24) }, api.OK},
	{"a flaw with 25 bytes", func(s *api.Survey) { s.Flaws[2].Name = strings.Repeat("z", 25) }, api.ErrName},
	{"a joint along z", func(s *api.Survey) { s.Joints[0].Axis = api.AxisZ }, api.ErrInvalid},
	{"a joint along -1", func(s *api.Survey) { s.Joints[2].Axis = -1 }, api.ErrInvalid},
	{"a joint without z", func(s *api.Survey) { s.Joints[1].Lo = s.Joints[1].Hi }, api.ErrInvalid},
	{"a joint with a z upside down", func(s *api.Survey) { s.Joints[2].Lo, s.Joints[2].Hi = math.MaxInt, math.MinInt }, api.ErrInvalid},
	{"a flaw without z", func(s *api.Survey) { s.Flaws[0].Prism.Lo = s.Flaws[0].Prism.Hi }, api.ErrInvalid},
	{"a flaw with a z upside down", func(s *api.Survey) { s.Flaws[2].Prism.Lo = 10 }, api.ErrInvalid},
	{"a base with 64 corners", func(s *api.Survey) { s.Flaws[1].Prism.Base, s.Pit.Max.Y = parabola(64), 5000 }, api.OK},
	{"a base with 65 corners", func(s *api.Survey) { s.Flaws[1].Prism.Base, s.Pit.Max.Y = parabola(65), 5000 }, api.ErrTooMany},
	{"no base", func(s *api.Survey) { s.Flaws[2].Prism.Base = nil }, api.ErrInvalid},
	{"a base with 2 corners", func(s *api.Survey) { s.Flaws[0].Prism.Base = poly(0, 0, 5, 0) }, api.ErrInvalid},
	{"a corner out of range", func(s *api.Survey) { s.Flaws[1].Prism.Base = poly(0, 0, top+1, 0, 0, 10) }, api.ErrRange},
	{"a corner twice", func(s *api.Survey) { s.Flaws[2].Prism.Base = poly(0, 0, 10, 0, 0, 10, 0, 0) }, api.ErrDuplicate},
	{"a clockwise base", func(s *api.Survey) { s.Flaws[0].Prism.Base = poly(0, 0, 0, 10, 10, 0) }, api.ErrConflict},
	{"a base on a line", func(s *api.Survey) { s.Flaws[1].Prism.Base = poly(0, 0, 5, 5, 10, 10) }, api.ErrConflict},
	{"a base with a corner on a side", func(s *api.Survey) { s.Flaws[1].Prism.Base = poly(0, 0, 5, 0, 10, 0, 0, 10) }, api.ErrConflict},
	{"a base that is not convex", func(s *api.Survey) { s.Flaws[2].Prism.Base = poly(0, 0, 10, 0, 2, 2, 0, 10) }, api.ErrConflict},
	{"a star", func(s *api.Survey) { s.Flaws[2].Prism.Base = poly(0, 0, 20, 12, -4, 12, 16, 0, 8, 20) }, api.ErrConflict},
	{"a base that goes around twice", func(s *api.Survey) { s.Flaws[2].Prism.Base = poly(0, 0, 9, 0, 0, 9, 0, 0, 9, 0, 0, 9) }, api.ErrConflict},
	{"a bed above the pit", func(s *api.Survey) { s.Beds[2].Z = 71 }, api.ErrOutside},
	{"a bed below the pit", func(s *api.Survey) { s.Beds[0].Z = -31 }, api.ErrOutside},
	{"a bed far above the pit", func(s *api.Survey) { s.Beds[2].Z = math.MaxInt }, api.ErrOutside},
	{"a joint at Min.X", func(s *api.Survey) { s.Joints[2].At = -10 }, api.OK},
	{"a joint below Min.X", func(s *api.Survey) { s.Joints[2].At = -11 }, api.ErrOutside},
	{"a joint at Max.X", func(s *api.Survey) { s.Joints[2].At = 90 }, api.OK},
	{"a joint above Max.X", func(s *api.Survey) { s.Joints[2].At = 91 }, api.ErrOutside},
	{"a joint at Min.Y", func(s *api.Survey) { s.Joints[1].At = -20 }, api.OK},
	{"a joint below Min.Y", func(s *api.Survey) { s.Joints[1].At = -21 }, api.ErrOutside},
	{"a joint above Max.Y", func(s *api.Survey) { s.Joints[1].At = 81 }, api.ErrOutside},
	{"a joint from below the pit", func(s *api.Survey) { s.Joints[0].Lo = -31 }, api.ErrOutside},
	{"a joint to above the pit", func(s *api.Survey) { s.Joints[0].Hi = 71 }, api.ErrOutside},
	{"a joint above the pit", func(s *api.Survey) { s.Joints[0].Lo, s.Joints[0].Hi = 71, 72 }, api.ErrOutside},
	{"a flaw from below the pit", func(s *api.Survey) { s.Flaws[0].Prism.Lo = -31 }, api.ErrOutside},
	{"a flaw to above the pit", func(s *api.Survey) { s.Flaws[0].Prism.Hi = 71 }, api.ErrOutside},
	{"a flaw to far above the pit", func(s *api.Survey) { s.Flaws[2].Prism.Hi = math.MaxInt }, api.ErrOutside},
	{"a corner below Min.X", func(s *api.Survey) { s.Flaws[0].Prism.Base[0].X = -11 }, api.ErrOutside},
	{"a corner above Max.X", func(s *api.Survey) { s.Flaws[0].Prism.Base[2].X = 91 }, api.ErrOutside},
	{"a corner below Min.Y", func(s *api.Survey) { s.Flaws[0].Prism.Base[0].Y = -21 }, api.ErrOutside},
	{"a corner above Max.Y", func(s *api.Survey) { s.Flaws[0].Prism.Base[3].Y = 81 }, api.ErrOutside},
	{"two beds at one z", func(s *api.Survey) { s.Beds[1].Z = 70 }, api.ErrDuplicate},
	{"beds upside down", func(s *api.Survey) { slices.Reverse(s.Beds) }, api.ErrDuplicate},
	{"beds not sorted by name", func(s *api.Survey) { s.Beds[0].Name = "z" }, api.OK},
	{"two joints with one name", func(s *api.Survey) { s.Joints[1].Name = "jc" }, api.ErrDuplicate},
	{"joints not sorted", func(s *api.Survey) { s.Joints[0].Name = "jz" }, api.ErrDuplicate},
	{"two flaws with one name", func(s *api.Survey) { s.Flaws[0].Name = "fb" }, api.ErrDuplicate},
	{"flaws not sorted", func(s *api.Survey) { s.Flaws[2].Name = "f" }, api.ErrDuplicate},
	{"two beds with one name", func(s *api.Survey) { s.Beds[0].Name = "high" }, api.ErrDuplicate},
	{"a bed and a joint with one name", func(s *api.Survey) { s.Beds[1].Name = "jb" }, api.ErrDuplicate},
	{"a bed and a flaw with one name", func(s *api.Survey) { s.Beds[2].Name = "fa" }, api.ErrDuplicate},
	{"a joint and a flaw with one name", func(s *api.Survey) { s.Flaws[2].Name = "ja" }, api.ErrDuplicate},
	{"two equal joints with other names", func(s *api.Survey) { s.Joints[1] = s.Joints[0]; s.Joints[1].Name = "jab" }, api.OK},
	{"two equal flaws with other names", func(s *api.Survey) { s.Flaws[1].Prism = s.Flaws[0].Prism }, api.OK},
	// Of the errors of the bases that of the first flaw counts.
	{"a base with 2 and one with 65 corners", func(s *api.Survey) {
		s.Flaws[1].Prism.Base, s.Flaws[2].Prism.Base = poly(0, 0, 5, 0), parabola(65)
	}, api.ErrInvalid},
	{"a base with 65 and one with 2 corners", func(s *api.Survey) {
		s.Flaws[0].Prism.Base, s.Flaws[2].Prism.Base = parabola(65), poly(0, 0, 5, 0)
	}, api.ErrTooMany},
}

// checkResults checks that all functions with an error give this one, and with an error nothing else.
func checkResults(t *testing.T, name string, s api.Survey, b api.Box, side int, survey, box, direction api.Errno) {
	t.Helper()
	if e := Check(s); e != survey {
		t.Errorf("%s: Check gives %d, want %d", name, e, survey)
	}
	if l, e := Line(s); e != survey || e != api.OK && (l.Tokens != nil || l.Kids != nil || l.Heading || l.At != 0) {
		t.Errorf("%s: Line gives %v, %d, want %d", name, l, e, survey)
	}
	if list, e := Through(s, b); e != box || e != api.OK && list != nil {
		t.Errorf("%s: Through gives %q, %d, want %d", name, list, e, box)
	}
	if list, e := Flaws(s, b); e != box || e != api.OK && list != nil {
		t.Errorf("%s: Flaws gives %q, %d, want %d", name, list, e, box)
	}
	if open, e := Open(s, b, side); e != direction || e != api.OK && open {
		t.Errorf("%s: Open gives %v, %d, want %d", name, open, e, direction)
	}
	if list, e := Jointed(s, b, side); e != direction || e != api.OK && list != nil {
		t.Errorf("%s: Jointed gives %v, %d, want %d", name, list, e, direction)
	}
}

func TestCheck(t *testing.T) {
	for _, c := range checks {
		s := rich()
		c.change(&s)
		before := copyOf(s)
		checkResults(t, c.name, s, cube(0, 20), api.MinusX, c.want, c.want, c.want)
		if !same(s, before) {
			t.Errorf("%s: the survey was changed", c.name)
		}
	}
}

// breakers are changes that lead to the errors in the order of the table. Where two concern parts of one kind, the later error is at the earlier part.
var breakers = []struct {
	code  api.Errno
	apply func(s *api.Survey)
}{
	{api.ErrTooMany, func(s *api.Survey) {
		for i := range 64 {
			s.Beds = append(s.Beds, bed(numbered("x", i), i+1))
		}
	}},
	{api.ErrRange, func(s *api.Survey) { s.Pit.Max.X = top + 1 }},
	{api.ErrInvalid, func(s *api.Survey) { s.Pit.Max.Y = s.Pit.Min.Y }},
	{api.ErrName, func(s *api.Survey) { s.Flaws[2].Name = "F" }},
	{api.ErrInvalid, func(s *api.Survey) { s.Joints[2].Axis = api.AxisZ }},
	{api.ErrDuplicate, func(s *api.Survey) { s.Flaws[2].Prism.Base = poly(0, 0, 0, 0, 5, 5) }},
	{api.ErrConflict, func(s *api.Survey) { s.Flaws[1].Prism.Base = poly(0, 0, 0, 10, 10, 0) }},
	{api.ErrOutside, func(s *api.Survey) { s.Flaws[0].Prism.Hi = 71 }},
	{api.ErrDuplicate, func(s *api.Survey) { s.Beds[0].Name = "middle" }},
}

func TestFirstErrorOfSeveral(t *testing.T) {
	for i, first := range breakers {
		for _, other := range breakers[i:] {
			s := rich()
			other.apply(&s)
			first.apply(&s)
			checkResults(t, "two errors", s, cube(0, 20), 0, first.code, first.code, first.code)
			checkResults(t, "an error of the survey and of the side", s, cube(0, 20), 4, first.code, first.code, first.code)
			checkResults(t, "an error of the survey and of the box", s, cube(20, 0), 0, first.code, first.code, first.code)
			checkResults(t, "an error of the survey, and a box outside", s, cube(0, 2000), -1, first.code, first.code, first.code)
			if t.Failed() {
				t.Fatalf("with the errors %d and %d", first.code, other.code)
			}
		}
	}
	for _, part := range []struct {
		code api.Errno
		kind func(s *api.Survey)
	}{
		{api.ErrTooMany, func(s *api.Survey) { s.Joints = manyJoints(129); s.Flaws = nil }},
		{api.ErrTooMany, func(s *api.Survey) { s.Flaws = manyFlaws(65); s.Beds = nil }},
	} {
		s := rich()
		part.kind(&s)
		s.Pit = api.Box{}
		checkResults(t, "too many in no pit", s, cube(0, 1), 0, part.code, part.code, part.code)
	}
}

func TestErrorsOfBoxesAndSides(t *testing.T) {
	s := rich()
	for _, c := range []struct {
		name           string
		b              api.Box
		side           int
		box, direction api.Errno
	}{
		{"the pit", s.Pit, 0, api.OK, api.OK},
		{"side 3", cube(0, 1), 3, api.OK, api.OK},
		{"side 4", cube(0, 1), 4, api.OK, api.ErrRange},
		{"side 5", cube(0, 1), 5, api.OK, api.ErrRange},
		{"side -1", cube(0, 1), -1, api.OK, api.ErrRange},
		{"a side far below", cube(0, 1), math.MinInt, api.OK, api.ErrRange},
		{"a side far above", cube(0, 1), math.MaxInt, api.OK, api.ErrRange},
		{"no x", bx(5, 0, 0, 5, 9, 9), 0, api.ErrInvalid, api.ErrInvalid},
		{"no y", bx(0, 5, 0, 9, 5, 9), 0, api.ErrInvalid, api.ErrInvalid},
		{"no z", bx(0, 0, 5, 9, 9, 5), 0, api.ErrInvalid, api.ErrInvalid},
		{"z upside down", bx(0, 0, 6, 9, 9, 5), 0, api.ErrInvalid, api.ErrInvalid},
		{"x upside down, far away", bx(math.MaxInt, 0, 0, math.MinInt, 9, 9), 0, api.ErrInvalid, api.ErrInvalid},
		{"an empty box", api.Box{}, 1, api.ErrInvalid, api.ErrInvalid},
		{"an empty box outside", cube(1000, 1000), 1, api.ErrInvalid, api.ErrInvalid},
		{"an empty box out of range", bx(0, 0, 0, top+9, 0, 1), 1, api.ErrInvalid, api.ErrInvalid},
		{"below Min.X", bx(-11, 0, 0, 9, 9, 9), 2, api.ErrOutside, api.ErrOutside},
		{"below Min.Y", bx(0, -21, 0, 9, 9, 9), 2, api.ErrOutside, api.ErrOutside},
		{"below Min.Z", bx(0, 0, -31, 9, 9, 9), 2, api.ErrOutside, api.ErrOutside},
		{"above Max.X", bx(0, 0, 0, 91, 9, 9), 2, api.ErrOutside, api.ErrOutside},
		{"above Max.Y", bx(0, 0, 0, 9, 81, 9), 2, api.ErrOutside, api.ErrOutside},
		{"above Max.Z", bx(0, 0, 0, 9, 9, 71), 2, api.ErrOutside, api.ErrOutside},
		{"beside the pit", bx(90, 0, 0, 91, 9, 9), 2, api.ErrOutside, api.ErrOutside},
		{"far away", cube(math.MinInt, math.MaxInt), 2, api.ErrOutside, api.ErrOutside},
		{"no side, and no box", bx(5, 0, 0, 5, 9, 9), 4, api.ErrInvalid, api.ErrRange},
		{"no side, and a box outside", bx(0, 0, 0, 9, 9, 71), -1, api.ErrOutside, api.ErrRange},
	} {
		checkResults(t, c.name, s, c.b, c.side, api.OK, c.box, c.direction)
	}
}

// TestBases compares which bases Check lets pass with package polygon, for all bases with up to 5 corners of a small grid.
func TestBases(t *testing.T) {
	s := api.Survey{Pit: cube(0, 2), Flaws: []api.Flaw{{Name: "f", Prism: api.Prism{Hi: 1}}}}
	var fill func(base api.Polygon)
	fill = func(base api.Polygon) {
		want := polygon.Check(base)
		if convex, e := polygon.Convex(base); e == api.OK && !convex {
			want = api.ErrConflict
		}
		s.Flaws[0].Prism.Base = base
		if e := Check(s); e != want {
			t.Fatalf("%v: %d, want %d", base, e, want)
		}
		if len(base) == 5 {
			return
		}
		for i := range 9 {
			fill(append(slices.Clone(base), api.Point{X: i % 3, Y: i / 3}))
		}
	}
	fill(nil)
}

// TestThrough holds the beds and joints of a survey against all boxes in its pit.
func TestThrough(t *testing.T) {
	s := api.Survey{
		Pit:    cube(0, 4),
		Beds:   []api.Bed{bed("y", 0), bed("b", 2), bed("a", 3), bed("m", 4)},
		Joints: []api.Joint{joint("c", api.AxisX, 0, 0, 4), joint("d", api.AxisX, 2, 1, 3), joint("e", api.AxisX, 4, 0, 4), joint("k", api.AxisY, 1, 0, 1), joint("l", api.AxisY, 3, 3, 4), joint("z", api.AxisX, 2, 0, 4)},
	}
	for b := range boxes(s.Pit) {
		got, e := Through(s, b)
		if want := modelThrough(s, b); !slices.Equal(got, want) || e != api.OK {
			t.Fatalf("%v: %q, %d, want %q", b, got, e, want)
		}
	}
	if got, _ := Through(s, s.Pit); !slices.Equal(got, []string{"a", "b", "d", "k", "l", "z"}) {
		t.Errorf("%q pass through the pit", got)
	}
}

// boxes yields all boxes inside a box.
func boxes(in api.Box) func(yield func(api.Box) bool) {
	return func(yield func(api.Box) bool) {
		var ranges [3][][2]int
		for axis, ends := range [][2]int{{in.Min.X, in.Max.X}, {in.Min.Y, in.Max.Y}, {in.Min.Z, in.Max.Z}} {
			for lo := ends[0]; lo < ends[1]; lo++ {
				for hi := lo + 1; hi <= ends[1]; hi++ {
					ranges[axis] = append(ranges[axis], [2]int{lo, hi})
				}
			}
		}
		for _, x := range ranges[0] {
			for _, y := range ranges[1] {
				for _, z := range ranges[2] {
					if !yield(bx(x[0], y[0], z[0], x[1], y[1], z[1])) {
						return
					}
				}
			}
		}
	}
}

func TestFlaws(t *testing.T) {
	s := api.Survey{Pit: cube(0, 10), Flaws: []api.Flaw{
		flaw("a", 2, 4, 0, 0, 10, 0, 0, 10),
		flaw("b", 4, 10, 3, 3, 6, 3, 6, 6, 3, 6),
		flaw("c", 0, 10, 10, 9, 10, 10, 9, 10),
	}}
	for _, c := range []struct {
		b    api.Box
		want []string
	}{
		{s.Pit, []string{"a", "b", "c"}},
		{bx(0, 0, 0, 10, 10, 2), []string{"c"}},
		{bx(0, 0, 2, 9, 9, 3), []string{"a"}},
		{bx(5, 5, 2, 9, 9, 4), nil},
		{bx(4, 5, 2, 9, 9, 4), []string{"a"}},
		{bx(3, 3, 3, 4, 4, 5), []string{"a", "b"}},
		{bx(6, 3, 4, 9, 9, 9), nil},
		{bx(5, 5, 4, 9, 9, 9), []string{"b"}},
		{bx(9, 9, 0, 10, 10, 1), []string{"c"}},
		{bx(9, 8, 0, 10, 9, 10), nil},
		{bx(0, 0, 4, 3, 10, 10), nil},
	} {
		if got, e := Flaws(s, c.b); !slices.Equal(got, c.want) || e != api.OK {
			t.Errorf("%v: %q, %d, want %q", c.b, got, e, c.want)
		}
	}
}

func TestBedded(t *testing.T) {
	s := rich()
	for _, c := range []struct {
		z    int
		want bool
	}{{-30, true}, {0, true}, {70, true}, {-31, false}, {-29, false}, {-1, false}, {1, false}, {71, false}, {math.MinInt, false}, {math.MaxInt, false}} {
		if got := Bedded(s, c.z); got != c.want {
			t.Errorf("Bedded(%d) is %v", c.z, got)
		}
	}
	// A survey need not be valid.
	wrong := api.Survey{Beds: []api.Bed{bed("", 9), bed("A", -4), bed("", math.MaxInt), bed("", 3), bed("", 3)}}
	for _, z := range []int{9, -4, math.MaxInt, 3} {
		if !Bedded(wrong, z) {
			t.Errorf("no bed at %d", z)
		}
	}
	if Bedded(wrong, 0) || Bedded(api.Survey{}, 0) {
		t.Error("a bed at 0")
	}
}

func TestOpen(t *testing.T) {
	for bits := range 16 {
		s := api.Survey{Pit: bx(-1, 0, 1, 2, 3, 3)}
		for side := range 4 {
			s.Open[side] = bits>>side&1 == 1
		}
		for b := range boxes(s.Pit) {
			for side := range 4 {
				if got, e := Open(s, b, side); got != modelOpen(s, b, side) || e != api.OK {
					t.Fatalf("%v in %v, side %d: %v, %d", b, s.Open, side, got, e)
				}
			}
		}
	}
	s := api.Survey{Pit: cube(0, 9), Open: [4]bool{false, true, true, false}}
	for side, want := range []bool{false, true, true, false} {
		if got, e := Open(s, s.Pit, side); got != want || e != api.OK {
			t.Errorf("the side %d of the pit: %v, %d", side, got, e)
		}
		if got, e := Open(s, cube(1, 8), side); got || e != api.OK {
			t.Errorf("the side %d of a box in the middle: %v, %d", side, got, e)
		}
	}
}

func TestJointed(t *testing.T) {
	s := api.Survey{Pit: cube(0, 20), Joints: []api.Joint{
		joint("a", api.AxisX, 5, 0, 4), joint("b", api.AxisX, 5, 4, 6), joint("c", api.AxisX, 5, 8, 12), joint("d", api.AxisX, 5, 7, 9),
		joint("e", api.AxisX, 9, 3, 4), joint("f", api.AxisY, 5, 2, 3), joint("g", api.AxisY, 9, 15, 20), joint("h", api.AxisY, 9, 0, 2),
		joint("i", api.AxisX, 20, 0, 20), joint("j", api.AxisY, 0, 19, 20),
	}}
	set := func(numbers ...int) []api.Interval {
		var out []api.Interval
		for i := 0; i < len(numbers); i += 2 {
			out = append(out, api.Interval{Lo: numbers[i], Hi: numbers[i+1]})
		}
		return out
	}
	for _, c := range []struct {
		b    api.Box
		side int
		want []api.Interval
	}{
		{bx(5, 5, 0, 9, 9, 20), api.MinusX, set(0, 5, 7, 11)},
		{bx(5, 5, 0, 9, 9, 20), api.PlusX, set(3, 3)},
		{bx(5, 5, 0, 9, 9, 20), api.MinusY, set(2, 2)},
		{bx(5, 5, 0, 9, 9, 20), api.PlusY, set(0, 1, 15, 19)},
		{bx(0, 5, 0, 5, 9, 20), api.PlusX, set(0, 5, 7, 11)},
		{bx(5, 5, 3, 9, 9, 8), api.MinusX, set(3, 5, 7, 7)},
		{bx(5, 5, 5, 9, 9, 6), api.MinusX, set(5, 5)},
		{bx(5, 5, 6, 9, 9, 7), api.MinusX, nil},
		{bx(5, 5, 12, 9, 9, 20), api.MinusX, nil},
		{bx(5, 5, 4, 9, 9, 20), api.PlusX, nil},
		{bx(5, 5, 0, 9, 9, 3), api.PlusX, nil},
		{bx(6, 6, 0, 9, 9, 20), api.MinusX, nil},
		{bx(4, 6, 0, 9, 9, 20), api.MinusX, nil},
		{s.Pit, api.PlusX, set(0, 19)},
		{s.Pit, api.MinusX, nil},
		{s.Pit, api.MinusY, set(19, 19)},
		{bx(0, 5, 0, 1, 9, 20), api.MinusX, nil},
	} {
		if got, e := Jointed(s, c.b, c.side); !slices.Equal(got, c.want) || e != api.OK {
			t.Errorf("%v, side %d: %v, %d, want %v", c.b, c.side, got, e, c.want)
		}
	}
}

func TestEqual(t *testing.T) {
	if !Equal(rich(), rich()) || !Equal(api.Survey{}, api.Survey{}) || Equal(rich(), example()) {
		t.Error("Equal")
	}
	empty := api.Survey{Beds: []api.Bed{}, Joints: []api.Joint{}, Flaws: []api.Flaw{}}
	if !Equal(empty, api.Survey{}) || !Equal(api.Survey{}, empty) {
		t.Error("empty lists are not equal")
	}
	bare := api.Survey{Flaws: []api.Flaw{{Prism: api.Prism{Base: api.Polygon{}}}}}
	if !Equal(bare, api.Survey{Flaws: make([]api.Flaw, 1)}) {
		t.Error("empty bases are not equal")
	}
	for i, change := range []func(s *api.Survey){
		func(s *api.Survey) { s.Pit.Min.X++ },
		func(s *api.Survey) { s.Pit.Max.Z++ },
		func(s *api.Survey) { s.Open[0] = false },
		func(s *api.Survey) { s.Open[2] = true },
		func(s *api.Survey) { s.Beds = s.Beds[:2] },
		func(s *api.Survey) { s.Beds = nil },
		func(s *api.Survey) { s.Beds[1].Name = "x" },
		func(s *api.Survey) { s.Beds[2].Z++ },
		func(s *api.Survey) { slices.Reverse(s.Beds) },
		func(s *api.Survey) { s.Joints = s.Joints[:2] },
		func(s *api.Survey) { s.Joints[0].Name = "x" },
		func(s *api.Survey) { s.Joints[1].Axis = api.AxisX },
		func(s *api.Survey) { s.Joints[2].At++ },
		func(s *api.Survey) { s.Joints[2].Lo++ },
		func(s *api.Survey) { s.Joints[2].Hi++ },
		func(s *api.Survey) { s.Flaws = s.Flaws[:2] },
		func(s *api.Survey) { s.Flaws[0].Name = "x" },
		func(s *api.Survey) { s.Flaws[1].Prism.Lo++ },
		func(s *api.Survey) { s.Flaws[2].Prism.Hi++ },
		func(s *api.Survey) { s.Flaws[2].Prism.Base[1].Y++ },
		func(s *api.Survey) { s.Flaws[2].Prism.Base = s.Flaws[2].Prism.Base[:2] },
		func(s *api.Survey) {
			p := s.Flaws[2].Prism.Base
			s.Flaws[2].Prism.Base = append(slices.Clone(p[1:]), p[0])
		},
	} {
		s := rich()
		change(&s)
		if Equal(s, rich()) || Equal(rich(), s) || !Equal(s, copyOf(s)) {
			t.Errorf("the change %d", i)
		}
	}
}

func TestDrawnSurveys(t *testing.T) {
	next := draw(13)
	for range 1500 {
		s := drawSurvey(next)
		before := copyOf(s)
		if e := Check(s); e != api.OK {
			t.Fatalf("%v: Check gives %d", s, e)
		}
		for range 20 {
			checkBoxOf(t, s, drawBox(next, s.Pit))
		}
		checkBoxOf(t, s, s.Pit)
		checkLineOf(t, s)
		if !same(s, before) || t.Failed() {
			t.Fatalf("%v", s)
		}
	}
}

// checkBoxOf checks what a survey says of a box, and of the parts of it.
func checkBoxOf(t *testing.T, s api.Survey, b api.Box) {
	t.Helper()
	through, e := Through(s, b)
	if !slices.Equal(through, modelThrough(s, b)) || e != api.OK {
		t.Errorf("%v: Through gives %q, %d", b, through, e)
	}
	flaws, e := Flaws(s, b)
	if !slices.Equal(flaws, modelFlaws(s, b)) || e != api.OK {
		t.Errorf("%v: Flaws gives %q, %d", b, flaws, e)
	}
	for side := range 4 {
		if got, e := Open(s, b, side); got != modelOpen(s, b, side) || e != api.OK {
			t.Errorf("%v, side %d: Open gives %v, %d", b, side, got, e)
		}
		if got, e := Jointed(s, b, side); !slices.Equal(got, modelJointed(s, b, side)) || e != api.OK {
			t.Errorf("%v, side %d: Jointed gives %v, %d", b, side, got, e)
		}
	}
	for _, part := range halves(s, b) {
		for _, name := range part.through {
			if !slices.Contains(through, name) || name == part.by {
				t.Errorf("%q passes through the part %v of %v at %q", name, part.box, b, part.by)
			}
		}
		for _, name := range part.flaws {
			if !slices.Contains(flaws, name) {
				t.Errorf("%q overlaps the part %v of %v", name, part.box, b)
			}
		}
	}
}

// half is a part of a box behind or before a bed or joint.
type half struct {
	by             string
	box            api.Box
	through, flaws []string
}

// halves divides a box at each bed and joint that passes through it.
func halves(s api.Survey, b api.Box) []half {
	var out []half
	add := func(by string, part api.Box) {
		h := half{by: by, box: part}
		h.through, _ = Through(s, part)
		h.flaws, _ = Flaws(s, part)
		out = append(out, h)
	}
	through, _ := Through(s, b)
	for _, x := range s.Beds {
		if slices.Contains(through, x.Name) {
			low, high := b, b
			low.Max.Z, high.Min.Z = x.Z, x.Z
			add(x.Name, low)
			add(x.Name, high)
		}
	}
	for _, j := range s.Joints {
		if slices.Contains(through, j.Name) {
			low, high := b, b
			if j.Axis == api.AxisX {
				low.Max.X, high.Min.X = j.At, j.At
			} else {
				low.Max.Y, high.Min.Y = j.At, j.At
			}
			add(j.Name, low)
			add(j.Name, high)
		}
	}
	return out
}
