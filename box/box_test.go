package box

import (
	"math"
	"slices"
	"testing"

	"gangsaw/api"
)

const top = api.MaxCoord

func vec(x, y, z int) api.Vec { return api.Vec{X: x, Y: y, Z: z} }

func bx(x, y, z, toX, toY, toZ int) api.Box {
	return api.Box{Min: vec(x, y, z), Max: vec(toX, toY, toZ)}
}

// cube returns the box from (from, from, from) to (to, to, to).
func cube(from, to int) api.Box { return bx(from, from, from, to, to, to) }

var whole = cube(-top, top)

// draw returns numbers that look random and are the same in every run.
func draw(seed uint64) func(below int) int {
	return func(below int) int {
		seed = seed*6364136223846793005 + 1442695040888963407
		return int(seed>>33) % below
	}
}

// drawBox returns a box with coordinates from 0 to most.
func drawBox(next func(below int) int, most int) api.Box {
	var from, to [3]int
	for i := range from {
		from[i] = next(most)
		to[i] = from[i] + 1 + next(most-from[i])
	}
	return bx(from[0], from[1], from[2], to[0], to[1], to[2])
}

func drawBoxes(next func(below int) int, count, most int) []api.Box {
	var out []api.Box
	for range count {
		out = append(out, drawBox(next, most))
	}
	return out
}

// allBoxes returns all valid boxes with coordinates from 0 to most.
func allBoxes(most int) []api.Box {
	var out []api.Box
	for _, b := range anyBoxes(0, most) {
		if b.Min.X < b.Max.X && b.Min.Y < b.Max.Y && b.Min.Z < b.Max.Z {
			out = append(out, b)
		}
	}
	return out
}

// anyBoxes returns all boxes with coordinates from least to most, valid or not.
func anyBoxes(least, most int) []api.Box {
	var out []api.Box
	points := pointsOf(cube(least, most+1))
	for _, a := range points {
		for _, b := range points {
			out = append(out, api.Box{Min: a, Max: b})
		}
	}
	return out
}

// pointsOf returns the points of a box, ordered by Z, then by Y, then by X.
func pointsOf(b api.Box) []api.Vec {
	var out []api.Vec
	for z := b.Min.Z; z < b.Max.Z; z++ {
		for y := b.Min.Y; y < b.Max.Y; y++ {
			for x := b.Min.X; x < b.Max.X; x++ {
				out = append(out, vec(x, y, z))
			}
		}
	}
	return out
}

// lies is the definition of Has, written out.
func lies(b api.Box, p api.Vec) bool {
	return b.Min.X <= p.X && p.X < b.Max.X && b.Min.Y <= p.Y && p.Y < b.Max.Y && b.Min.Z <= p.Z && p.Z < b.Max.Z
}

func liesInOne(list []api.Box, p api.Vec) bool {
	return slices.ContainsFunc(list, func(b api.Box) bool { return lies(b, p) })
}

// shareAPoint looks at all points of a.
func shareAPoint(a, b api.Box) bool {
	return slices.ContainsFunc(pointsOf(a), func(p api.Vec) bool { return lies(b, p) })
}

func volumeOf(list ...api.Box) int64 {
	sum := int64(0)
	for _, b := range list {
		sum += int64(b.Max.X-b.Min.X) * int64(b.Max.Y-b.Min.Y) * int64(b.Max.Z-b.Min.Z)
	}
	return sum
}

// with returns the box with one of its six coordinates changed.
func with(b api.Box, which, n int) api.Box {
	*[]*int{&b.Min.X, &b.Min.Y, &b.Min.Z, &b.Max.X, &b.Max.Y, &b.Max.Z}[which] = n
	return b
}

type refusal struct {
	b    api.Box
	want api.Errno
}

// refusals returns boxes that are not valid, with their first error.
func refusals() []refusal {
	out := []refusal{
		{api.Box{}, api.ErrInvalid},
		{cube(1, 0), api.ErrInvalid},
		{cube(top, -top), api.ErrInvalid},
		{cube(top, top), api.ErrInvalid},
		{cube(top+1, top+2), api.ErrRange},
		{cube(top+1, top+1), api.ErrRange},
		{cube(-top-2, -top-1), api.ErrRange},
		{cube(math.MinInt, math.MaxInt), api.ErrRange},
		{cube(math.MaxInt, math.MinInt), api.ErrRange},
		{bx(5, 0, 0, 0, 0, top+1), api.ErrRange},
		{bx(0, 0, -top-1, 0, 5, 5), api.ErrRange},
	}
	for which := range 6 {
		for _, n := range []int{top + 1, -top - 1, top + 2, 1 << 31, 1 << 32, -1 << 32, math.MaxInt, math.MinInt} {
			out = append(out, refusal{with(cube(0, 5), which, n), api.ErrRange}, refusal{with(cube(5, 0), which, n), api.ErrRange})
		}
		wrong := []int{5, 6, 0, -1}[which/3*2:]
		out = append(out, refusal{with(cube(0, 5), which, wrong[0]), api.ErrInvalid}, refusal{with(cube(0, 5), which, wrong[1]), api.ErrInvalid})
	}
	return out
}

func TestCheck(t *testing.T) {
	for _, b := range []api.Box{cube(0, 1), cube(-3, 4), whole, cube(top-1, top), cube(-top, 1-top), bx(-top, 0, 5, top, 1, 6)} {
		if e := Check(b); e != api.OK {
			t.Errorf("Check(%v) = %d", b, e)
		}
	}
	for _, c := range refusals() {
		if e := Check(c.b); e != c.want {
			t.Errorf("Check(%v) = %d, want %d", c.b, e, c.want)
		}
	}
}

// call is a function of some boxes; it reports whether the results are zero values.
type call func(list ...api.Box) (bool, api.Errno)

func functionsOfOne() map[string]call {
	return map[string]call{
		"Check":  func(l ...api.Box) (bool, api.Errno) { return true, Check(l[0]) },
		"Volume": func(l ...api.Box) (bool, api.Errno) { n, e := Volume(l[0]); return n == 0, e },
		"Move":   func(l ...api.Box) (bool, api.Errno) { b, e := Move(l[0], vec(1, 2, 3)); return b == api.Box{}, e },
		"Move out of range": func(l ...api.Box) (bool, api.Errno) {
			b, e := Move(l[0], vec(0, 0, math.MaxInt))
			return b == api.Box{}, e
		},
	}
}

func functionsOfTwo() map[string]call {
	return map[string]call{
		"Touch":     func(l ...api.Box) (bool, api.Errno) { n, e := Touch(l[0], l[1]); return n == 0, e },
		"Intersect": func(l ...api.Box) (bool, api.Errno) { b, e := Intersect(l[0], l[1]); return b == api.Box{}, e },
		"Hull":      func(l ...api.Box) (bool, api.Errno) { b, e := Hull(l[0], l[1]); return b == api.Box{}, e },
		"Subtract":  func(l ...api.Box) (bool, api.Errno) { b, e := Subtract(l[0], l[1]); return len(b) == 0, e },
	}
}

// functionsOfBoxAndList returns functions that check the first box, and then the others as a list.
func functionsOfBoxAndList() map[string]call {
	return map[string]call{
		"Rest":      func(l ...api.Box) (bool, api.Errno) { b, e := Rest(l[0], l[1:]); return len(b) == 0, e },
		"Gap":       func(l ...api.Box) (bool, api.Errno) { p, e := Gap(l[0], l[1:]); return p == api.Vec{}, e },
		"Partition": func(l ...api.Box) (bool, api.Errno) { return true, Partition(l[0], l[1:]) },
	}
}

func functionsOfList() map[string]call {
	return map[string]call{
		"Total": func(l ...api.Box) (bool, api.Errno) { n, e := Total(l); return n == 0, e },
		"Clash": func(l ...api.Box) (bool, api.Errno) { i, k, e := Clash(l); return i == 0 && k == 0, e },
	}
}

func refuse(t *testing.T, name string, f call, want api.Errno, list ...api.Box) {
	t.Helper()
	kept := slices.Clone(list)
	if zero, e := f(list...); e != want || !zero {
		t.Errorf("%s of %d boxes %v: zero %v, error %d, want %d", name, len(list), list[:min(len(list), 4)], zero, e, want)
	}
	if !slices.Equal(list, kept) {
		t.Errorf("%s changed its arguments", name)
	}
}

func TestRefusals(t *testing.T) {
	for name, f := range functionsOfOne() {
		for _, c := range refusals() {
			refuse(t, name, f, c.want, c.b)
		}
	}
	good := cube(0, 5)
	several := []map[string]call{functionsOfTwo(), functionsOfBoxAndList(), functionsOfList()}
	for _, functions := range several {
		for name, f := range functions {
			for _, c := range refusals() {
				refuse(t, name, f, c.want, c.b, good)
				refuse(t, name, f, c.want, good, c.b)
				refuse(t, name, f, c.want, c.b, c.b)
			}
		}
	}
}

// TestFirstRefusalCounts has boxes with different errors: the first box decides, whatever its error is.
func TestFirstRefusalCounts(t *testing.T) {
	good, invalid, far := cube(0, 5), cube(5, 5), cube(0, top+1)
	for _, functions := range []map[string]call{functionsOfTwo(), functionsOfBoxAndList(), functionsOfList()} {
		for name, f := range functions {
			refuse(t, name, f, api.ErrInvalid, invalid, far)
			refuse(t, name, f, api.ErrRange, far, invalid)
		}
	}
	for _, functions := range []map[string]call{functionsOfBoxAndList(), functionsOfList()} {
		for name, f := range functions {
			refuse(t, name, f, api.ErrInvalid, good, good, invalid, far)
			refuse(t, name, f, api.ErrRange, good, good, far, invalid)
			refuse(t, name, f, api.ErrRange, good, cube(2, 9), good, far)
		}
	}
}

func TestLongLists(t *testing.T) {
	for _, first := range []api.Box{cube(0, 5), cube(5, 5), cube(0, top+1)} {
		for _, other := range []api.Box{cube(0, 5), cube(4, 9), cube(5, 0), whole, cube(-top-1, 0)} {
			list := slices.Repeat([]api.Box{other}, MaxBoxes+1)
			for name, f := range functionsOfBoxAndList() {
				refuse(t, name, f, api.ErrTooMany, append([]api.Box{first}, list...)...)
			}
			for name, f := range functionsOfList() {
				refuse(t, name, f, api.ErrTooMany, append([]api.Box{first}, list[1:]...)...)
			}
		}
	}
}

func TestLongestLists(t *testing.T) {
	var list []api.Box
	for i := range MaxBoxes {
		list = append(list, bx(i, 0, 0, i+1, 1, 1))
	}
	b := bx(0, 0, 0, MaxBoxes, 1, 1)
	if parts, e := Rest(b, list); len(parts) != 0 || e != api.OK {
		t.Errorf("Rest: %v, %d", parts, e)
	}
	if p, e := Gap(bx(0, 0, 0, MaxBoxes+1, 1, 1), list); p != vec(MaxBoxes, 0, 0) || e != api.OK {
		t.Errorf("Gap: %v, %d", p, e)
	}
	if n, e := Total(list); n != MaxBoxes || e != api.OK {
		t.Errorf("Total: %d, %d", n, e)
	}
	if _, _, e := Clash(list); e != api.ErrNone {
		t.Errorf("Clash: %d", e)
	}
	if e := Partition(b, list); e != api.OK {
		t.Errorf("Partition: %d", e)
	}
	list[MaxBoxes-1] = list[MaxBoxes-2]
	if i, k, e := Clash(list); i != MaxBoxes-2 || k != MaxBoxes-1 || e != api.OK {
		t.Errorf("Clash: %d, %d, %d", i, k, e)
	}
}

func TestSizeAndVolume(t *testing.T) {
	for _, b := range anyBoxes(-1, 1) {
		if s := Size(b); s != vec(b.Max.X-b.Min.X, b.Max.Y-b.Min.Y, b.Max.Z-b.Min.Z) {
			t.Errorf("Size(%v) = %v", b, s)
		}
	}
	if s := Size(bx(top+5, 7, 0, 0, 10, -top*2)); s != vec(-top-5, 3, -top*2) {
		t.Errorf("Size of a box that is not valid: %v", s)
	}
	Size(cube(math.MinInt, math.MaxInt))
	for _, b := range allBoxes(3) {
		if n, e := Volume(b); n != int64(len(pointsOf(b))) || e != api.OK {
			t.Errorf("Volume(%v) = %d, %d", b, n, e)
		}
	}
	for _, c := range []struct {
		b    api.Box
		want int64
	}{
		{whole, 8000000000000000000},
		{cube(0, top), 1000000000000000000},
		{bx(-top, -top, 5, top, top, 6), 4000000000000},
		{bx(2, 3, 4, 12, 103, 1004), 1000000},
	} {
		if n, e := Volume(c.b); n != c.want || e != api.OK {
			t.Errorf("Volume(%v) = %d, %d", c.b, n, e)
		}
	}
}

func TestHas(t *testing.T) {
	points := pointsOf(cube(-2, 4))
	for _, b := range anyBoxes(-1, 2) {
		for _, p := range points {
			if got := Has(b, p); got != lies(b, p) {
				t.Fatalf("Has(%v, %v) = %v", b, p, got)
			}
		}
	}
	least, most := math.MinInt, math.MaxInt
	for _, c := range []struct {
		b    api.Box
		p    api.Vec
		want bool
	}{
		{whole, vec(-top, -top, -top), true},
		{whole, vec(top-1, top-1, top-1), true},
		{whole, vec(top, 0, 0), false},
		{whole, vec(0, top, 0), false},
		{whole, vec(0, 0, top), false},
		{whole, vec(-top-1, 0, 0), false},
		{cube(least, most), vec(least, least, least), true},
		{cube(least, most), vec(most-1, 0, least), true},
		{cube(least, most), vec(most, 0, 0), false},
		{cube(most, least), vec(0, 0, 0), false},
	} {
		if got := Has(c.b, c.p); got != c.want {
			t.Errorf("Has(%v, %v) = %v", c.b, c.p, got)
		}
	}
}

func TestInside(t *testing.T) {
	boxes := anyBoxes(0, 2)
	for _, a := range boxes {
		for _, b := range boxes {
			low := a.Min.X >= b.Min.X && a.Min.Y >= b.Min.Y && a.Min.Z >= b.Min.Z
			high := a.Max.X <= b.Max.X && a.Max.Y <= b.Max.Y && a.Max.Z <= b.Max.Z
			if got := Inside(a, b); got != (low && high) {
				t.Fatalf("Inside(%v, %v) = %v", a, b, got)
			}
		}
	}
	huge := cube(math.MinInt, math.MaxInt)
	if !Inside(huge, huge) || !Inside(whole, huge) || Inside(huge, whole) || !Inside(cube(math.MaxInt, math.MinInt), whole) {
		t.Error("Inside at the extremes")
	}
}

func TestOverlap(t *testing.T) {
	boxes := anyBoxes(0, 2)
	for _, a := range boxes {
		for _, b := range boxes {
			if got := Overlap(a, b); got != shareAPoint(a, b) {
				t.Fatalf("Overlap(%v, %v) = %v", a, b, got)
			}
		}
	}
	valid := allBoxes(3)
	for _, a := range valid {
		for _, b := range valid {
			if got := Overlap(a, b); got != shareAPoint(a, b) {
				t.Fatalf("Overlap(%v, %v) = %v", a, b, got)
			}
		}
	}
	huge := cube(math.MinInt, math.MaxInt)
	if !Overlap(huge, huge) || !Overlap(huge, whole) || Overlap(huge, cube(math.MaxInt, math.MinInt)) || Overlap(huge, cube(3, 3)) {
		t.Error("Overlap at the extremes")
	}
}

// ways has the six directions as moves, in the order of their numbers.
func ways() []api.Vec {
	return []api.Vec{vec(1, 0, 0), vec(-1, 0, 0), vec(0, 1, 0), vec(0, -1, 0), vec(0, 0, 1), vec(0, 0, -1)}
}

func shifted(b api.Box, by api.Vec) api.Box {
	return bx(b.Min.X+by.X, b.Min.Y+by.Y, b.Min.Z+by.Z, b.Max.X+by.X, b.Max.Y+by.Y, b.Max.Z+by.Z)
}

// modelTouch returns the direction in which b stands at a: without a common point, but one step back towards a it has one.
func modelTouch(a, b api.Box) (int, api.Errno) {
	for direction, way := range ways() {
		if !shareAPoint(a, b) && shareAPoint(a, shifted(b, vec(-way.X, -way.Y, -way.Z))) {
			return direction, api.OK
		}
	}
	return 0, api.ErrNone
}

func TestTouch(t *testing.T) {
	boxes := allBoxes(3)
	count := map[int]int{}
	for _, a := range boxes {
		for _, b := range boxes {
			want, wantError := modelTouch(a, b)
			got, e := Touch(a, b)
			if got != want || e != wantError {
				t.Fatalf("Touch(%v, %v) = %d, %d, want %d, %d", a, b, got, e, want, wantError)
			}
			if e != api.OK {
				continue
			}
			count[got]++
			if back, e := Touch(b, a); back != got^1 || e != api.OK {
				t.Fatalf("Touch(%v, %v) = %d, %d, the other way %d", b, a, back, e, got)
			}
		}
	}
	if len(count) != 6 {
		t.Errorf("directions: %v", count)
	}
}

func TestTouchOfExamples(t *testing.T) {
	a := cube(0, 4)
	for _, c := range []struct {
		a, b      api.Box
		direction int
		want      api.Errno
	}{
		{a, bx(4, 1, 1, 5, 2, 2), api.PlusX, api.OK},
		{a, bx(-1, 1, 1, 0, 2, 2), api.MinusX, api.OK},
		{a, bx(1, 4, 1, 2, 5, 2), api.PlusY, api.OK},
		{a, bx(1, -1, 1, 2, 0, 2), api.MinusY, api.OK},
		{a, bx(1, 1, 4, 2, 2, 5), api.PlusZ, api.OK},
		{a, bx(1, 1, -1, 2, 2, 0), api.MinusZ, api.OK},
		{a, bx(4, 3, 3, 9, 9, 9), api.PlusX, api.OK},
		{a, bx(4, 4, 0, 5, 5, 1), 0, api.ErrNone},
		{a, bx(4, 4, 4, 5, 5, 5), 0, api.ErrNone},
		{a, bx(5, 1, 1, 6, 2, 2), 0, api.ErrNone},
		{a, a, 0, api.ErrNone},
		{a, cube(1, 2), 0, api.ErrNone},
		{a, cube(3, 9), 0, api.ErrNone},
		{bx(-top, -top, -top, 0, top, top), bx(0, -top, -top, top, top, top), api.PlusX, api.OK},
		{whole, whole, 0, api.ErrNone},
	} {
		if n, e := Touch(c.a, c.b); n != c.direction || e != c.want {
			t.Errorf("Touch(%v, %v) = %d, %d", c.a, c.b, n, e)
		}
	}
}

func TestIntersectAndHull(t *testing.T) {
	boxes := allBoxes(3)
	points := pointsOf(cube(0, 3))
	for _, a := range boxes {
		for _, b := range boxes {
			both, e := Intersect(a, b)
			if shareAPoint(a, b) != (e == api.OK) || e != api.OK && (e != api.ErrNone || both != api.Box{}) {
				t.Fatalf("Intersect(%v, %v) = %v, %d", a, b, both, e)
			}
			for _, p := range points {
				if lies(both, p) != (lies(a, p) && lies(b, p)) {
					t.Fatalf("Intersect(%v, %v) = %v, but %v", a, b, both, p)
				}
			}
			around, e := Hull(a, b)
			least := vec(min(a.Min.X, b.Min.X), min(a.Min.Y, b.Min.Y), min(a.Min.Z, b.Min.Z))
			most := vec(max(a.Max.X, b.Max.X), max(a.Max.Y, b.Max.Y), max(a.Max.Z, b.Max.Z))
			if around != (api.Box{Min: least, Max: most}) || e != api.OK {
				t.Fatalf("Hull(%v, %v) = %v, %d", a, b, around, e)
			}
		}
	}
	if b, e := Intersect(cube(0, 4), cube(2, 6)); b != cube(2, 4) || e != api.OK {
		t.Errorf("Intersect: %v, %d", b, e)
	}
	if b, e := Intersect(whole, cube(top-1, top)); b != cube(top-1, top) || e != api.OK {
		t.Errorf("Intersect at the limit: %v, %d", b, e)
	}
	if b, e := Intersect(bx(0, 0, 0, 4, 4, 4), bx(4, 0, 0, 8, 4, 4)); b != (api.Box{}) || e != api.ErrNone {
		t.Errorf("Intersect of boxes that touch: %v, %d", b, e)
	}
	if b, e := Hull(cube(-top, 1-top), cube(top-1, top)); b != whole || e != api.OK {
		t.Errorf("Hull at the limits: %v, %d", b, e)
	}
}

func TestMove(t *testing.T) {
	least, most := math.MinInt, math.MaxInt
	b := bx(-10, 20, 30, 40, 50, 60)
	for _, c := range []struct {
		b    api.Box
		by   api.Vec
		want api.Box
		e    api.Errno
	}{
		{b, vec(0, 0, 0), b, api.OK},
		{b, vec(1, -2, 3), bx(-9, 18, 33, 41, 48, 63), api.OK},
		{b, vec(top-40, top-50, top-60), bx(top-50, top-30, top-30, top, top, top), api.OK},
		{b, vec(top-39, 0, 0), api.Box{}, api.ErrRange},
		{b, vec(0, top-49, 0), api.Box{}, api.ErrRange},
		{b, vec(0, 0, top-59), api.Box{}, api.ErrRange},
		{b, vec(10-top, -20-top, -30-top), bx(-top, -top, -top, 50-top, 30-top, 30-top), api.OK},
		{b, vec(9-top, 0, 0), api.Box{}, api.ErrRange},
		{b, vec(0, -21-top, 0), api.Box{}, api.ErrRange},
		{b, vec(0, 0, -31-top), api.Box{}, api.ErrRange},
		{b, vec(most, 0, 0), api.Box{}, api.ErrRange},
		{b, vec(0, least, 0), api.Box{}, api.ErrRange},
		{b, vec(0, 0, most), api.Box{}, api.ErrRange},
		{b, vec(least, least, least), api.Box{}, api.ErrRange},
		{cube(top-1, top), vec(1-2*top, 1-2*top, 1-2*top), cube(-top, 1-top), api.OK},
		{cube(-top, 1-top), vec(2*top-1, 2*top-1, 2*top-1), cube(top-1, top), api.OK},
		{cube(top-1, top), vec(most, most, most), api.Box{}, api.ErrRange},
		{cube(-top, 1-top), vec(least, least, least), api.Box{}, api.ErrRange},
		{whole, vec(1, 0, 0), api.Box{}, api.ErrRange},
		{whole, vec(0, 0, -1), api.Box{}, api.ErrRange},
		{whole, vec(0, 0, 0), whole, api.OK},
	} {
		got, e := Move(c.b, c.by)
		if got != c.want || e != c.e {
			t.Errorf("Move(%v, %v) = %v, %d, want %v, %d", c.b, c.by, got, e, c.want, c.e)
		}
		if e != api.OK {
			continue
		}
		if back, e := Move(got, vec(-c.by.X, -c.by.Y, -c.by.Z)); back != c.b || e != api.OK {
			t.Errorf("moved there and back, %v is %v, %d", c.b, back, e)
		}
	}
}

func TestMoveKeepsOverlapAndContact(t *testing.T) {
	next := draw(1)
	for range 5000 {
		a, b := drawBox(next, 6), drawBox(next, 6)
		by := vec(next(2*top-10)-top, next(2*top-10)-top, next(2*top-10)-top)
		c, e := Move(a, by)
		d, f := Move(b, by)
		if e != api.OK || f != api.OK {
			t.Fatalf("Move of %v and %v by %v: %d, %d", a, b, by, e, f)
		}
		before, e := Touch(a, b)
		after, f := Touch(c, d)
		if Overlap(a, b) != Overlap(c, d) || before != after || e != f {
			t.Fatalf("%v and %v, moved by %v: contact %d, %d and %d, %d", a, b, by, before, e, after, f)
		}
	}
}

// modelSubtract has the six parts of the chapter, written out.
func modelSubtract(a, b api.Box) []api.Box {
	c := bx(max(a.Min.X, b.Min.X), max(a.Min.Y, b.Min.Y), max(a.Min.Z, b.Min.Z), min(a.Max.X, b.Max.X), min(a.Max.Y, b.Max.Y), min(a.Max.Z, b.Max.Z))
	if len(pointsOf(c)) == 0 {
		return []api.Box{a}
	}
	var out []api.Box
	for _, part := range []api.Box{
		bx(a.Min.X, a.Min.Y, a.Min.Z, a.Max.X, a.Max.Y, c.Min.Z),
		bx(a.Min.X, a.Min.Y, c.Max.Z, a.Max.X, a.Max.Y, a.Max.Z),
		bx(a.Min.X, a.Min.Y, c.Min.Z, a.Max.X, c.Min.Y, c.Max.Z),
		bx(a.Min.X, c.Max.Y, c.Min.Z, a.Max.X, a.Max.Y, c.Max.Z),
		bx(a.Min.X, c.Min.Y, c.Min.Z, c.Min.X, c.Max.Y, c.Max.Z),
		bx(c.Max.X, c.Min.Y, c.Min.Z, a.Max.X, c.Max.Y, c.Max.Z),
	} {
		if len(pointsOf(part)) > 0 {
			out = append(out, part)
		}
	}
	return out
}

// countIn returns in how many boxes a point lies.
func countIn(list []api.Box, p api.Vec) int {
	count := 0
	for _, b := range list {
		if lies(b, p) {
			count++
		}
	}
	return count
}

func checkSubtract(t *testing.T, a, b api.Box, points []api.Vec) {
	t.Helper()
	parts, e := Subtract(a, b)
	if !slices.Equal(parts, modelSubtract(a, b)) || e != api.OK {
		t.Fatalf("Subtract(%v, %v) = %v, %d, want %v", a, b, parts, e, modelSubtract(a, b))
	}
	for _, p := range points {
		want := 0
		if lies(a, p) && !lies(b, p) {
			want = 1
		}
		if n := countIn(parts, p); n != want {
			t.Fatalf("Subtract(%v, %v): %v lies in %d parts, not in %d", a, b, p, n, want)
		}
	}
	both, _ := Intersect(a, b)
	if volumeOf(parts...)+volumeOf(both) != volumeOf(a) {
		t.Fatalf("Subtract(%v, %v): the volumes do not add up", a, b)
	}
}

func TestSubtract(t *testing.T) {
	boxes := allBoxes(3)
	points := pointsOf(cube(0, 3))
	for _, a := range boxes {
		for _, b := range boxes {
			checkSubtract(t, a, b, points)
		}
	}
	next := draw(2)
	for range 1000 {
		checkSubtract(t, drawBox(next, 6), drawBox(next, 6), pointsOf(cube(0, 6)))
	}
}

func TestSubtractOfExamples(t *testing.T) {
	a := cube(0, 4)
	for _, c := range []struct {
		a, b api.Box
		want []api.Box
	}{
		{a, cube(2, 6), []api.Box{bx(0, 0, 0, 4, 4, 2), bx(0, 0, 2, 4, 2, 4), bx(0, 2, 2, 2, 4, 4)}},
		{a, cube(1, 3), []api.Box{bx(0, 0, 0, 4, 4, 1), bx(0, 0, 3, 4, 4, 4), bx(0, 0, 1, 4, 1, 3), bx(0, 3, 1, 4, 4, 3), bx(0, 1, 1, 1, 3, 3), bx(3, 1, 1, 4, 3, 3)}},
		{a, a, nil},
		{a, whole, nil},
		{a, cube(4, 8), []api.Box{a}},
		{a, bx(4, 0, 0, 8, 4, 4), []api.Box{a}},
		{whole, cube(-top, top-1), []api.Box{bx(-top, -top, top-1, top, top, top), bx(-top, top-1, -top, top, top, top-1), bx(top-1, -top, -top, top, top-1, top-1)}},
	} {
		if parts, e := Subtract(c.a, c.b); !slices.Equal(parts, c.want) || e != api.OK {
			t.Errorf("Subtract(%v, %v) = %v, %d", c.a, c.b, parts, e)
		}
	}
}

func TestRest(t *testing.T) {
	next := draw(3)
	points := pointsOf(cube(0, 6))
	for range 1500 {
		b, list := drawBox(next, 6), drawBoxes(next, next(7), 6)
		want := []api.Box{b}
		for _, other := range list {
			var parts []api.Box
			for _, part := range want {
				parts = append(parts, modelSubtract(part, other)...)
			}
			want = parts
		}
		kept := slices.Clone(list)
		got, e := Rest(b, list)
		if !slices.Equal(got, want) || e != api.OK {
			t.Fatalf("Rest(%v, %v) = %v, %d, want %v", b, list, got, e, want)
		}
		if !slices.Equal(list, kept) {
			t.Fatalf("Rest changed %v to %v", kept, list)
		}
		for _, p := range points {
			if (countIn(got, p) == 1) != (lies(b, p) && !liesInOne(list, p)) || countIn(got, p) > 1 {
				t.Fatalf("Rest(%v, %v) = %v, but %v lies in %d", b, list, got, p, countIn(got, p))
			}
		}
	}
}

func TestRestOfFew(t *testing.T) {
	a := cube(0, 4)
	for _, c := range []struct{ list, want []api.Box }{
		{nil, []api.Box{a}},
		{[]api.Box{}, []api.Box{a}},
		{[]api.Box{cube(4, 5), whole}, nil},
		{[]api.Box{a, a, a}, nil},
		{[]api.Box{bx(0, 0, 0, 4, 4, 1), bx(0, 0, 1, 3, 4, 4)}, []api.Box{bx(3, 0, 1, 4, 4, 4)}},
		{[]api.Box{bx(1, 0, 0, 2, 4, 4), bx(0, 2, 0, 4, 3, 4)}, []api.Box{bx(0, 0, 0, 1, 2, 4), bx(0, 3, 0, 1, 4, 4), bx(2, 0, 0, 4, 2, 4), bx(2, 3, 0, 4, 4, 4)}},
	} {
		if parts, e := Rest(a, c.list); !slices.Equal(parts, c.want) || e != api.OK {
			t.Errorf("Rest(%v, %v) = %v, %d", a, c.list, parts, e)
		}
	}
}

// saws returns the boxes that cut the cube from 0 to 63 into MaxPieces cubes with sides of 3: at 3, 7, 11 and so on of each axis.
func saws() []api.Box {
	var out []api.Box
	for i := range 15 {
		at := 4*i + 3
		out = append(out, bx(0, 0, at, 64, 64, at+1), bx(0, at, 0, 64, at+1, 64), bx(at, 0, 0, at+1, 64, 64))
	}
	return out
}

func TestRestOfManyPieces(t *testing.T) {
	b := bx(0, 0, 0, 63, 63, 63)
	split := bx(0, 1, 0, 3, 2, 3)
	// Once the second piece is narrow, exchange divides the first one and takes the second one away: there are more pieces only while the box is worked on.
	narrow := []api.Box{bx(4, 0, 0, 7, 1, 3), bx(4, 2, 0, 7, 3, 3)}
	exchange := bx(0, 1, 0, 7, 2, 3)
	for i, c := range []struct {
		more []api.Box
		want int
		e    api.Errno
	}{
		{nil, MaxPieces, api.OK},
		{[]api.Box{split}, 0, api.ErrTooMany},
		{[]api.Box{split, whole}, 0, api.ErrTooMany},
		{[]api.Box{bx(0, 0, 0, 3, 3, 3), bx(4, 1, 0, 7, 2, 3)}, MaxPieces, api.OK},
		{[]api.Box{bx(0, 0, 0, 3, 3, 3), bx(4, 1, 1, 7, 2, 2)}, 0, api.ErrTooMany},
		{append(slices.Clone(narrow), exchange), MaxPieces, api.OK},
		{append(slices.Clone(narrow), exchange, split), MaxPieces, api.OK},
		{[]api.Box{exchange}, 0, api.ErrTooMany},
		{[]api.Box{whole}, 0, api.OK},
	} {
		if parts, e := Rest(b, append(saws(), c.more...)); len(parts) != c.want || e != c.e {
			t.Errorf("%d: Rest has %d parts, error %d, want %d, %d", i, len(parts), e, c.want, c.e)
		}
	}
}

// modelGap looks at all points of b in their order.
func modelGap(b api.Box, list []api.Box) (api.Vec, api.Errno) {
	for _, p := range pointsOf(b) {
		if !liesInOne(list, p) {
			return p, api.OK
		}
	}
	return api.Vec{}, api.ErrNone
}

func TestGap(t *testing.T) {
	next := draw(4)
	full := 0
	for range 6000 {
		most := 2 + next(5)
		b, list := drawBox(next, most), drawBoxes(next, next(12), most)
		kept := slices.Clone(list)
		want, wantError := modelGap(b, list)
		if p, e := Gap(b, list); p != want || e != wantError {
			t.Fatalf("Gap(%v, %v) = %v, %d, want %v, %d", b, list, p, e, want, wantError)
		}
		if !slices.Equal(list, kept) {
			t.Fatalf("Gap changed %v to %v", kept, list)
		}
		if wantError == api.ErrNone {
			full++
		}
	}
	if full < 500 {
		t.Errorf("%d boxes without a gap", full)
	}
}

func TestGapOfFew(t *testing.T) {
	a := cube(0, 4)
	for _, c := range []struct {
		b    api.Box
		list []api.Box
		want api.Vec
		e    api.Errno
	}{
		{a, []api.Box{bx(0, 0, 0, 4, 4, 1), bx(0, 0, 1, 3, 4, 4)}, vec(3, 0, 1), api.OK},
		{cube(-7, 4), nil, vec(-7, -7, -7), api.OK},
		{cube(-7, 4), []api.Box{}, vec(-7, -7, -7), api.OK},
		{cube(-7, 4), []api.Box{cube(4, 8), cube(-9, -7)}, vec(-7, -7, -7), api.OK},
		{a, []api.Box{a}, api.Vec{}, api.ErrNone},
		{a, []api.Box{whole}, api.Vec{}, api.ErrNone},
		{a, []api.Box{bx(0, 0, 0, 2, 4, 4), bx(2, 0, 0, 4, 4, 4)}, api.Vec{}, api.ErrNone},
		{a, []api.Box{bx(0, 0, 0, 4, 4, 3), bx(0, 0, 3, 4, 3, 4), bx(0, 3, 3, 3, 4, 4)}, vec(3, 3, 3), api.OK},
		{whole, []api.Box{cube(-top, top-1)}, vec(top-1, -top, -top), api.OK},
		{whole, []api.Box{cube(1-top, top)}, vec(-top, -top, -top), api.OK},
		{whole, []api.Box{bx(-top, -top, -top, top, top, top-1), bx(-top, -top, top-1, top, top-1, top), bx(-top, top-1, top-1, top-1, top, top)}, vec(top-1, top-1, top-1), api.OK},
	} {
		if p, e := Gap(c.b, c.list); p != c.want || e != c.e {
			t.Errorf("Gap(%v, %v) = %v, %d", c.b, c.list, p, e)
		}
	}
}

func TestTotal(t *testing.T) {
	next := draw(5)
	for range 3000 {
		list := drawBoxes(next, next(12), 2+next(6))
		kept := slices.Clone(list)
		want := int64(0)
		for _, p := range pointsOf(cube(0, 8)) {
			if liesInOne(list, p) {
				want++
			}
		}
		if n, e := Total(list); n != want || e != api.OK {
			t.Fatalf("Total(%v) = %d, %d, want %d", list, n, e, want)
		}
		if !slices.Equal(list, kept) {
			t.Fatalf("Total changed %v to %v", kept, list)
		}
	}
}

func TestTotalOfFew(t *testing.T) {
	for _, c := range []struct {
		list []api.Box
		want int64
	}{
		{nil, 0},
		{[]api.Box{}, 0},
		{[]api.Box{cube(0, 4), cube(2, 6), cube(0, 1)}, 120},
		{[]api.Box{whole}, 8000000000000000000},
		{[]api.Box{whole, whole, cube(-5, 5)}, 8000000000000000000},
		{[]api.Box{cube(-top, 0), cube(0, top)}, 2000000000000000000},
		{[]api.Box{cube(-top, 1-top), cube(top-1, top)}, 2},
		{slices.Repeat([]api.Box{cube(-top, top-1)}, MaxBoxes), 1999999 * 1999999 * 1999999},
	} {
		if n, e := Total(c.list); n != c.want || e != api.OK {
			t.Errorf("Total of %d boxes = %d, %d, want %d", len(c.list), n, e, c.want)
		}
	}
}

// TestTotalIsWhatRestTakes compares the union of many boxes with what they leave of a box around them.
func TestTotalIsWhatRestTakes(t *testing.T) {
	next := draw(6)
	b := cube(0, 1000)
	for range 30 {
		list := drawBoxes(next, 20+next(20), 1000)
		parts, e := Rest(b, list)
		if e != api.OK {
			t.Fatalf("Rest of %v: %d", list, e)
		}
		if n, e := Total(list); n != volumeOf(b)-volumeOf(parts...) || e != api.OK {
			t.Fatalf("Total(%v) = %d, %d, but Rest leaves %d", list, n, e, volumeOf(parts...))
		}
		least, e := Gap(b, list)
		for _, part := range parts {
			if order(part.Min, least) < 0 || e != api.OK {
				t.Fatalf("Gap of %v = %v, %d, but %v is left", list, least, e, part)
			}
		}
	}
}

func order(a, b api.Vec) int {
	return slices.Compare([]int{a.Z, a.Y, a.X}, []int{b.Z, b.Y, b.X})
}

func TestClash(t *testing.T) {
	for _, c := range []struct {
		list []api.Box
		i, k int
		e    api.Errno
	}{
		{nil, 0, 0, api.ErrNone},
		{[]api.Box{}, 0, 0, api.ErrNone},
		{[]api.Box{whole}, 0, 0, api.ErrNone},
		{[]api.Box{whole, whole}, 0, 1, api.OK},
		{[]api.Box{cube(0, 4), cube(4, 8), bx(4, 0, 0, 8, 4, 4)}, 0, 0, api.ErrNone},
		{[]api.Box{cube(0, 1), cube(2, 4), cube(3, 5), cube(0, 1)}, 0, 3, api.OK},
		{[]api.Box{cube(0, 1), cube(2, 4), cube(3, 5), cube(2, 3)}, 1, 2, api.OK},
		{[]api.Box{cube(9, 10), cube(2, 3), cube(4, 5), cube(1, 8), cube(2, 3)}, 1, 3, api.OK},
	} {
		if i, k, e := Clash(c.list); i != c.i || k != c.k || e != c.e {
			t.Errorf("Clash(%v) = %d, %d, %d", c.list, i, k, e)
		}
	}
	next := draw(7)
	for range 3000 {
		list := drawBoxes(next, next(6), 8)
		wantI, wantK, want := 0, 0, api.ErrNone
		for i := len(list) - 1; i >= 0; i-- {
			for k := len(list) - 1; k > i; k-- {
				if shareAPoint(list[i], list[k]) {
					wantI, wantK, want = i, k, api.OK
				}
			}
		}
		if i, k, e := Clash(list); i != wantI || k != wantK || e != want {
			t.Fatalf("Clash(%v) = %d, %d, %d, want %d, %d, %d", list, i, k, e, wantI, wantK, want)
		}
	}
}

func TestPartition(t *testing.T) {
	a := cube(0, 4)
	low, high := bx(0, 0, 0, 4, 4, 2), bx(0, 0, 2, 4, 4, 4)
	for i, c := range []struct {
		b    api.Box
		list []api.Box
		want api.Errno
	}{
		{a, []api.Box{a}, api.OK},
		{a, []api.Box{low, high}, api.OK},
		{a, []api.Box{high, low}, api.OK},
		{whole, []api.Box{whole}, api.OK},
		{whole, []api.Box{bx(-top, -top, -top, top, 0, top), bx(-top, 0, -top, top, top, top)}, api.OK},
		{a, nil, api.ErrNone},
		{a, []api.Box{}, api.ErrNone},
		{a, []api.Box{low}, api.ErrNone},
		{a, []api.Box{low, bx(0, 0, 2, 4, 4, 3), bx(0, 0, 3, 4, 4, 4)}, api.OK},
		{a, []api.Box{low, bx(0, 0, 2, 4, 4, 3), bx(0, 0, 3, 4, 3, 4), bx(0, 3, 3, 3, 4, 4)}, api.ErrNone},
		{a, []api.Box{low, low}, api.ErrOverlap},
		{a, []api.Box{low, high, cube(1, 2)}, api.ErrOverlap},
		{a, []api.Box{cube(0, 2), cube(1, 2)}, api.ErrOverlap},
		{a, []api.Box{a, a}, api.ErrOverlap},
		{a, []api.Box{whole}, api.ErrOutside},
		{a, []api.Box{low, bx(0, 0, 2, 4, 4, 5)}, api.ErrOutside},
		{a, []api.Box{low, low, bx(-1, 0, 2, 4, 4, 4)}, api.ErrOutside},
		{a, []api.Box{low, high, cube(4, 5)}, api.ErrOutside},
		{a, []api.Box{bx(0, 0, -2, 4, 4, 2)}, api.ErrOutside},
		{whole, slices.Repeat([]api.Box{whole}, MaxBoxes), api.ErrOverlap},
		// The sum of these volumes is 2 to the 64 more than that of the whole, which 64 bits cannot tell from it.
		{cube(0, 1<<19), slices.Repeat([]api.Box{cube(0, 1<<19)}, 129), api.ErrOverlap},
	} {
		if e := Partition(c.b, c.list); e != c.want {
			t.Errorf("%d: Partition(%v) = %d, want %d", i, c.b, e, c.want)
		}
	}
	for which := range 6 {
		for _, by := range []int{-1, 1} {
			b := with(cube(0, 4), which, []int{0, 4}[which/3]+by)
			want := api.ErrNone
			if which < 3 == (by < 0) {
				want = api.ErrOutside
			}
			if e := Partition(a, []api.Box{b}); e != want {
				t.Errorf("Partition(%v, %v) = %d, want %d", a, b, e, want)
			}
		}
	}
}

// TestPartitionOfParts divides boxes at other ones, then takes one part away, or adds one.
func TestPartitionOfParts(t *testing.T) {
	next := draw(8)
	for range 500 {
		b, list := drawBox(next, 8), drawBoxes(next, 1+next(3), 8)
		parts := []api.Box{b}
		for _, other := range list {
			var finer []api.Box
			for _, part := range parts {
				rest, _ := Subtract(part, other)
				finer = append(finer, rest...)
				if both, e := Intersect(part, other); e == api.OK {
					finer = append(finer, both)
				}
			}
			parts = finer
		}
		if e := Partition(b, parts); e != api.OK {
			t.Fatalf("Partition(%v, %v) = %d", b, parts, e)
		}
		i := next(len(parts))
		if e := Partition(b, slices.Delete(slices.Clone(parts), i, i+1)); e != api.ErrNone {
			t.Fatalf("Partition(%v, %v) without %d = %d", b, parts, i, e)
		}
		if e := Partition(b, append(slices.Clone(parts), parts[i])); e != api.ErrOverlap {
			t.Fatalf("Partition(%v, %v) with %d twice = %d", b, parts, i, e)
		}
	}
}

// TestLongListsOfAllCoordinates has no two equal coordinates, which is the most that there is to walk through.
func TestLongListsOfAllCoordinates(t *testing.T) {
	var list []api.Box
	for i := range MaxBoxes {
		k, l := i*77%MaxBoxes, i*155%MaxBoxes
		list = append(list, bx(-i-1, -k-1, -l-1, 1000-i, 1000-k, 1000-l))
	}
	total, e := Total(list)
	if e != api.OK {
		t.Fatalf("Total: %d", e)
	}
	// Column by column: how much of it the boxes cover is the union of ranges in z.
	want := int64(0)
	for x := -MaxBoxes; x < 1000; x++ {
		for y := -MaxBoxes; y < 1000; y++ {
			want += int64(heightAt(list, x, y))
		}
	}
	if total != want {
		t.Errorf("Total = %d, want %d", total, want)
	}
	if p, e := Gap(cube(0, 1000-MaxBoxes), list); p != (api.Vec{}) || e != api.ErrNone {
		t.Errorf("Gap: %v, %d", p, e)
	}
}

// heightAt returns how many points of a column lie in boxes that all have the point (x, y, 0) if they have any of the column.
func heightAt(list []api.Box, x, y int) int {
	low, high := 0, 0
	for _, b := range list {
		if b.Min.X <= x && x < b.Max.X && b.Min.Y <= y && y < b.Max.Y {
			low, high = min(low, b.Min.Z), max(high, b.Max.Z)
		}
	}
	return high - low
}
