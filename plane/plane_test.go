package plane

import (
	"math"
	"slices"
	"testing"

	"gangsaw/api"
)

const (
	top  = api.MaxCoord
	most = 1000
	farD = 4000000000
)

func hf(a, b, c int, d int64) api.Half { return api.Half{A: a, B: b, C: c, D: d} }

func vec(x, y, z int) api.Vec { return api.Vec{X: x, Y: y, Z: z} }

func bx(x, y, z, toX, toY, toZ int) api.Box {
	return api.Box{Min: vec(x, y, z), Max: vec(toX, toY, toZ)}
}

// cube returns the box from (from, from, from) to (to, to, to).
func cube(from, to int) api.Box { return bx(from, from, from, to, to, to) }

// unit returns the unit cell whose least corner is p.
func unit(p api.Vec) api.Box { return bx(p.X, p.Y, p.Z, p.X+1, p.Y+1, p.Z+1) }

var whole = cube(-top, top)

// draw returns numbers that look random and are the same in every run.
func draw(seed uint64) func(below int) int {
	return func(below int) int {
		seed = seed*6364136223846793005 + 1442695040888963407
		return int(seed>>33) % below
	}
}

// drawHalf returns a valid half-space with A, B and C from -size to size, and D from -far to far.
func drawHalf(next func(below int) int, size, far int) api.Half {
	for {
		h := hf(next(2*size+1)-size, next(2*size+1)-size, next(2*size+1)-size, int64(next(2*far+1)-far))
		if h.A != 0 || h.B != 0 || h.C != 0 {
			return h
		}
	}
}

// drawBox returns a box with coordinates from -most to most.
func drawBox(next func(below int) int, most int) api.Box {
	var from, to [3]int
	for i := range from {
		from[i] = next(2*most) - most
		to[i] = from[i] + 1 + next(most-from[i])
	}
	return bx(from[0], from[1], from[2], to[0], to[1], to[2])
}

// allHalves returns all valid half-spaces with A, B and C from -size to size, and D from -far to far.
func allHalves(size, far int) []api.Half {
	var out []api.Half
	for _, n := range pointsOf(cube(-size, size+1)) {
		for d := -far; d <= far; d++ {
			if n != vec(0, 0, 0) {
				out = append(out, hf(n.X, n.Y, n.Z, int64(d)))
			}
		}
	}
	return out
}

// pointsOf returns the points p of a box with Min <= p < Max: those at which its unit cells begin.
func pointsOf(b api.Box) []api.Vec {
	var out []api.Vec
	for z := b.Min.Z; z < b.Max.Z; z++ {
		for y := b.Min.Y; y < b.Max.Y; y++ {
			for x := b.Min.X; x < b.Max.X; x++ {
				out = append(out, vec(x, y, z))
			}
		}
	}
	return out
}

func corners(b api.Box) []api.Vec {
	var out []api.Vec
	for _, x := range []int{b.Min.X, b.Max.X} {
		for _, y := range []int{b.Min.Y, b.Max.Y} {
			for _, z := range []int{b.Min.Z, b.Max.Z} {
				out = append(out, vec(x, y, z))
			}
		}
	}
	return out
}

// valueAt is the definition of the value, written out.
func valueAt(h api.Half, p api.Vec) int64 {
	return int64(h.A)*int64(p.X) + int64(h.B)*int64(p.Y) + int64(h.C)*int64(p.Z) - h.D
}

// modelSide looks at all corners of a box.
func modelSide(h api.Half, b api.Box) int {
	in, out := true, true
	for _, p := range corners(b) {
		in = in && valueAt(h, p) <= 0
		out = out && valueAt(h, p) >= 0
	}
	switch {
	case in:
		return Inside
	case out:
		return Outside
	}
	return Across
}

func TestConstants(t *testing.T) {
	if Inside != 1 || Outside != 2 || Across != 3 {
		t.Error("the positions have other numbers")
	}
}

// validHalves has half-spaces at the limits.
func validHalves() []api.Half {
	return []api.Half{
		hf(1, 0, 0, 0), hf(0, -1, 0, 0), hf(0, 0, 1, 0), hf(1, 2, -3, 77),
		hf(most, most, most, farD), hf(-most, -most, -most, -farD),
		hf(most, 0, 0, -farD), hf(0, most, 0, farD), hf(0, 0, most, 1),
		hf(-most, 0, 0, farD), hf(0, -most, 0, -farD), hf(0, 0, -most, -1),
		hf(0, 0, 1, farD), hf(0, 0, 1, -farD), hf(most, -most, 999, farD-1),
	}
}

type halfRefusal struct {
	h    api.Half
	want api.Errno
}

// halfRefusals returns half-spaces that are not valid, with their first error.
func halfRefusals() []halfRefusal {
	out := []halfRefusal{
		{api.Half{}, api.ErrInvalid},
		{hf(0, 0, 0, 1), api.ErrInvalid},
		{hf(0, 0, 0, farD), api.ErrInvalid},
		{hf(0, 0, 0, -farD), api.ErrInvalid},
		{hf(0, 0, 0, farD+1), api.ErrRange},
		{hf(0, 0, 0, -farD-1), api.ErrRange},
		{hf(most+1, most+1, most+1, farD+1), api.ErrRange},
		{hf(math.MinInt, math.MinInt, math.MinInt, math.MinInt64), api.ErrRange},
		{hf(math.MaxInt, math.MaxInt, math.MaxInt, math.MaxInt64), api.ErrRange},
	}
	for _, n := range []int{most + 1, -most - 1, top, 1 << 31, 1 << 32, -1 << 32, math.MaxInt, math.MinInt} {
		for _, other := range []int{0, 1} {
			out = append(out,
				halfRefusal{hf(n, other, other, 0), api.ErrRange},
				halfRefusal{hf(other, n, other, 0), api.ErrRange},
				halfRefusal{hf(other, other, n, 0), api.ErrRange})
		}
	}
	for _, d := range []int64{farD + 1, -farD - 1, 1 << 32, -1 << 32, 1 << 62, math.MaxInt64, math.MinInt64} {
		out = append(out, halfRefusal{hf(1, 2, 3, d), api.ErrRange})
	}
	return out
}

type boxRefusal struct {
	b    api.Box
	want api.Errno
}

// boxRefusals returns boxes that are not valid, with their first error.
func boxRefusals() []boxRefusal {
	return []boxRefusal{
		{api.Box{}, api.ErrInvalid},
		{cube(1, 0), api.ErrInvalid},
		{bx(0, 0, 5, 5, 5, 5), api.ErrInvalid},
		{bx(0, 5, 0, 5, 4, 5), api.ErrInvalid},
		{cube(0, top+1), api.ErrRange},
		{cube(-top-1, 0), api.ErrRange},
		{bx(5, 0, 0, 0, 0, top+1), api.ErrRange},
		{cube(math.MinInt, math.MaxInt), api.ErrRange},
		{cube(math.MaxInt, math.MinInt), api.ErrRange},
	}
}

func TestCheck(t *testing.T) {
	for _, h := range validHalves() {
		if e := Check(h); e != api.OK {
			t.Errorf("Check(%v) = %d", h, e)
		}
	}
	for _, c := range halfRefusals() {
		if e := Check(c.h); e != c.want {
			t.Errorf("Check(%v) = %d, want %d", c.h, e, c.want)
		}
	}
}

// ofBox is a function of a half-space and a box; it reports whether the results are zero values.
type ofBox func(h api.Half, b api.Box) (bool, api.Errno)

func functionsOfBox() map[string]ofBox {
	depth := func(direction, far int) ofBox {
		return func(h api.Half, b api.Box) (bool, api.Errno) {
			n, e := Depth(h, b, direction, far)
			return n == 0, e
		}
	}
	return map[string]ofBox{
		"Extremes":             func(h api.Half, b api.Box) (bool, api.Errno) { n, m, e := Extremes(h, b); return n == 0 && m == 0, e },
		"Side":                 func(h api.Half, b api.Box) (bool, api.Errno) { n, e := Side(h, b); return n == 0, e },
		"Hull":                 func(h api.Half, b api.Box) (bool, api.Errno) { a, e := Hull(h, b); return a == api.Box{}, e },
		"Depth":                depth(api.MinusZ, 5),
		"Depth, bad way":       depth(6, 5),
		"Depth, bad distance":  depth(0, -1),
		"Depth, all is wrong":  depth(math.MinInt, math.MaxInt),
		"Depth, far too far":   depth(math.MaxInt, math.MinInt),
		"Depth, no distance":   depth(api.PlusX, 0),
		"Depth, long distance": depth(api.PlusY, top),
	}
}

// functionsOfPoint have a half-space first, and a point.
func functionsOfPoint() map[string]func(h api.Half, p api.Vec) (bool, api.Errno) {
	return map[string]func(h api.Half, p api.Vec) (bool, api.Errno){
		"Value": func(h api.Half, p api.Vec) (bool, api.Errno) { n, e := Value(h, p); return n == 0, e },
	}
}

// functionsOfTwo have two half-spaces.
func functionsOfTwo() map[string]func(a, b api.Half) (bool, api.Errno) {
	return map[string]func(a, b api.Half) (bool, api.Errno){
		"Equal":  func(a, b api.Half) (bool, api.Errno) { is, e := Equal(a, b); return !is, e },
		"Within": func(a, b api.Half) (bool, api.Errno) { is, e := Within(a, b); return !is, e },
	}
}

func TestHalvesAreRefused(t *testing.T) {
	good := hf(1, 2, 3, 4)
	points := []api.Vec{vec(1, 2, 3), vec(top+1, 0, 0), vec(math.MinInt, 0, math.MaxInt)}
	boxes := []api.Box{cube(-5, -4), cube(50, 60), whole, cube(5, 5), cube(0, top+1)}
	for _, c := range halfRefusals() {
		if n, e := Normal(c.h); n != (api.Half{}) || e != c.want {
			t.Errorf("Normal(%v) = %v, %d, want %d", c.h, n, e, c.want)
		}
		for name, f := range functionsOfPoint() {
			for _, p := range points {
				if zero, e := f(c.h, p); !zero || e != c.want {
					t.Errorf("%s(%v, %v): zero %v, error %d, want %d", name, c.h, p, zero, e, c.want)
				}
			}
		}
		for name, f := range functionsOfBox() {
			for _, b := range boxes {
				if zero, e := f(c.h, b); !zero || e != c.want {
					t.Errorf("%s(%v, %v): zero %v, error %d, want %d", name, c.h, b, zero, e, c.want)
				}
			}
		}
		for name, f := range functionsOfTwo() {
			for _, pair := range [][2]api.Half{{c.h, good}, {good, c.h}, {c.h, c.h}} {
				if zero, e := f(pair[0], pair[1]); !zero || e != c.want {
					t.Errorf("%s(%v): zero %v, error %d, want %d", name, pair, zero, e, c.want)
				}
			}
		}
	}
}

// TestFirstHalfCounts has two half-spaces with different errors: the first one decides.
func TestFirstHalfCounts(t *testing.T) {
	invalid, far := api.Half{}, hf(0, 0, 0, farD+1)
	for name, f := range functionsOfTwo() {
		if zero, e := f(invalid, far); !zero || e != api.ErrInvalid {
			t.Errorf("%s: zero %v, error %d", name, zero, e)
		}
		if zero, e := f(far, invalid); !zero || e != api.ErrRange {
			t.Errorf("%s: zero %v, error %d", name, zero, e)
		}
	}
}

func TestBoxesAreRefused(t *testing.T) {
	for name, f := range functionsOfBox() {
		for _, c := range boxRefusals() {
			for _, h := range []api.Half{hf(1, 0, 0, farD), hf(1, 0, 0, -farD), hf(-1, 2, 3, 0)} {
				if zero, e := f(h, c.b); !zero || e != c.want {
					t.Errorf("%s(%v, %v): zero %v, error %d, want %d", name, h, c.b, zero, e, c.want)
				}
			}
		}
	}
}

func TestPointsAreRefused(t *testing.T) {
	for _, n := range []int{top + 1, -top - 1, 1 << 32, -1 << 32, math.MaxInt, math.MinInt} {
		for _, p := range []api.Vec{vec(n, 0, 0), vec(0, n, 0), vec(0, 0, n), vec(n, n, n)} {
			for _, h := range validHalves() {
				if v, e := Value(h, p); v != 0 || e != api.ErrRange {
					t.Errorf("Value(%v, %v) = %d, %d", h, p, v, e)
				}
			}
		}
	}
}

func TestValue(t *testing.T) {
	for _, c := range []struct {
		h    api.Half
		p    api.Vec
		want int64
	}{
		{hf(1, 0, 2, 10), vec(8, 0, 1), 0},
		{hf(1, 0, 2, 10), vec(8, 77, 0), -2},
		{hf(1, 0, 2, 10), vec(1, -5, 5), 1},
		{hf(2, 3, 5, 7), vec(10, 100, 1000), 5313},
		{hf(-2, 3, -5, -7), vec(10, 100, 1000), -4713},
		{hf(most, most, most, -farD), vec(top, top, top), 7000000000},
		{hf(most, most, most, farD), vec(-top, -top, -top), -7000000000},
		{hf(-most, most, -most, -farD), vec(-top, top, -top), 7000000000},
		{hf(0, 0, 1, farD), vec(0, 0, top), -3999000000},
	} {
		if n, e := Value(c.h, c.p); n != c.want || e != api.OK {
			t.Errorf("Value(%v, %v) = %d, %d, want %d", c.h, c.p, n, e, c.want)
		}
	}
	next := draw(1)
	for range 5000 {
		h := drawHalf(next, []int{2, most}[next(2)], farD/2)
		p := vec(next(2*top+1)-top, next(2*top+1)-top, next(2*top+1)-top)
		if n, e := Value(h, p); n != valueAt(h, p) || e != api.OK {
			t.Fatalf("Value(%v, %v) = %d, %d, want %d", h, p, n, e, valueAt(h, p))
		}
	}
}

func checkExtremes(t *testing.T, h api.Half, b api.Box) {
	t.Helper()
	var values []int64
	for _, p := range corners(b) {
		values = append(values, valueAt(h, p))
	}
	least, greatest, e := Extremes(h, b)
	if least != slices.Min(values) || greatest != slices.Max(values) || e != api.OK {
		t.Fatalf("Extremes(%v, %v) = %d, %d, %d of %v", h, b, least, greatest, e, values)
	}
	side, e := Side(h, b)
	if side != modelSide(h, b) || e != api.OK {
		t.Fatalf("Side(%v, %v) = %d, %d, want %d", h, b, side, e, modelSide(h, b))
	}
	if (side == Inside) != (greatest <= 0) {
		t.Fatalf("Side(%v, %v) = %d, but the greatest value is %d", h, b, side, greatest)
	}
}

func TestExtremesAndSide(t *testing.T) {
	next := draw(2)
	count := map[int]int{}
	for range 30000 {
		h, b := drawHalf(next, 3, 12), drawBox(next, 4)
		checkExtremes(t, h, b)
		count[modelSide(h, b)]++
	}
	if min(count[Inside], count[Outside], count[Across]) < 3000 {
		t.Errorf("positions: %v", count)
	}
	for range 3000 {
		checkExtremes(t, drawHalf(next, most, farD/2), drawBox(next, top))
	}
	for _, h := range validHalves() {
		for _, b := range []api.Box{whole, cube(-top, 1-top), cube(top-1, top), bx(-top, 0, top-1, top, 1, top), cube(-1, 1)} {
			checkExtremes(t, h, b)
		}
	}
}

func TestExtremesOfExamples(t *testing.T) {
	for _, c := range []struct {
		h               api.Half
		b               api.Box
		least, greatest int64
		side            int
	}{
		{hf(1, 0, 2, 10), bx(0, 0, 0, 4, 1, 3), -10, 0, Inside},
		{hf(1, 0, 2, 10), bx(0, 0, 0, 5, 1, 3), -10, 1, Across},
		{hf(1, 0, 2, 10), bx(10, 0, 0, 11, 1, 1), 0, 3, Outside},
		{hf(1, 0, 2, 10), bx(9, 0, 0, 11, 1, 1), -1, 3, Across},
		{hf(1, 0, 0, 5), bx(0, 0, 0, 5, 5, 5), -5, 0, Inside},   // a face on the plane
		{hf(1, 0, 0, 5), bx(5, 0, 0, 9, 5, 5), 0, 4, Outside},   // a face on the plane
		{hf(1, 1, 0, 10), bx(0, 0, 0, 5, 5, 5), -10, 0, Inside}, // an edge on the plane
		{hf(1, 1, 0, 10), bx(5, 5, 0, 6, 6, 5), 0, 2, Outside},  // an edge on the plane
		{hf(1, 1, 1, 15), bx(0, 0, 0, 5, 5, 5), -15, 0, Inside}, // a corner on the plane
		{hf(-1, 1, -1, 0), bx(-3, 3, -3, 0, 9, 0), 3, 15, Outside},
		{hf(-1, 1, -1, 3), bx(-3, 3, -3, 0, 9, 0), 0, 12, Outside}, // a corner on the plane
		{hf(2, 0, 0, 1), bx(0, 0, 0, 1, 1, 1), -1, 1, Across},      // no integer point on the plane
		{hf(2, 0, 0, 1), bx(1, 0, 0, 2, 1, 1), 1, 3, Outside},
		{hf(2, 0, 0, 1), bx(-1, 0, 0, 0, 1, 1), -3, -1, Inside},
		{hf(most, most, most, -farD), whole, 1000000000, 7000000000, Outside},
		{hf(most, -most, most, farD), whole, -7000000000, -1000000000, Inside},
		{hf(0, 0, -most, 0), whole, -1000000000, 1000000000, Across},
		{hf(most, most, most, 3000000000), whole, -6000000000, 0, Inside},
		{hf(most, most, most, -3000000000), whole, 0, 6000000000, Outside},
		{hf(most, most, most, 2999999999), whole, -5999999999, 1, Across},
	} {
		least, greatest, e := Extremes(c.h, c.b)
		if least != c.least || greatest != c.greatest || e != api.OK {
			t.Errorf("Extremes(%v, %v) = %d, %d, %d", c.h, c.b, least, greatest, e)
		}
		if side, e := Side(c.h, c.b); side != c.side || e != api.OK {
			t.Errorf("Side(%v, %v) = %d, %d", c.h, c.b, side, e)
		}
	}
}

// TestSideOfParts has smaller boxes in a box that is not Across.
func TestSideOfParts(t *testing.T) {
	next := draw(3)
	for range 3000 {
		h, b := drawHalf(next, 3, 9), drawBox(next, 3)
		side, _ := Side(h, b)
		if side == Across {
			continue
		}
		for _, p := range pointsOf(b) {
			if got, e := Side(h, unit(p)); got != side || e != api.OK {
				t.Fatalf("Side(%v, %v) = %d, %d, but that of %v is %d", h, unit(p), got, e, b, side)
			}
		}
	}
}

func TestNormal(t *testing.T) {
	for _, c := range []struct{ h, want api.Half }{
		{hf(2, 0, 4, 7), hf(1, 0, 2, 3)},
		{hf(2, 0, 4, 6), hf(1, 0, 2, 3)},
		{hf(2, 0, 4, 8), hf(1, 0, 2, 4)},
		{hf(2, 0, 4, -7), hf(1, 0, 2, -4)},
		{hf(2, 0, 4, -6), hf(1, 0, 2, -3)},
		{hf(2, 0, 4, -1), hf(1, 0, 2, -1)},
		{hf(2, 0, 4, 1), hf(1, 0, 2, 0)},
		{hf(1, 0, 2, -7), hf(1, 0, 2, -7)},
		{hf(-6, 9, -15, 10), hf(-2, 3, -5, 3)},
		{hf(-6, 9, -15, -10), hf(-2, 3, -5, -4)},
		{hf(6, 10, 15, 29), hf(6, 10, 15, 29)},
		{hf(0, -7, 0, 0), hf(0, -1, 0, 0)},
		{hf(0, 0, -most, 1), hf(0, 0, -1, 0)},
		{hf(0, 0, -most, -1), hf(0, 0, -1, -1)},
		{hf(most, 0, 0, farD), hf(1, 0, 0, 4000000)},
		{hf(most, 0, 0, -farD), hf(1, 0, 0, -4000000)},
		{hf(0, 999, 0, -farD), hf(0, 1, 0, -4004005)},
		{hf(999, most, 999, farD), hf(999, most, 999, farD)},
		{hf(0, 1, 0, -farD), hf(0, 1, 0, -farD)},
	} {
		if n, e := Normal(c.h); n != c.want || e != api.OK {
			t.Errorf("Normal(%v) = %v, %d, want %v", c.h, n, e, c.want)
		}
	}
}

// TestNormalOfDrawn looks at points, and at whether there is a common factor.
func TestNormalOfDrawn(t *testing.T) {
	next := draw(4)
	points := pointsOf(cube(-3, 4))
	for range 5000 {
		h := drawHalf(next, []int{2, 6, most}[next(3)], 20)
		n, e := Normal(h)
		if again, f := Normal(n); again != n || e != api.OK || f != api.OK {
			t.Fatalf("Normal(%v) = %v, %d, and Normal of it %v, %d", h, n, e, again, f)
		}
		for factor := 2; factor <= most; factor++ {
			if n.A%factor == 0 && n.B%factor == 0 && n.C%factor == 0 {
				t.Fatalf("Normal(%v) = %v has the factor %d", h, n, factor)
			}
		}
		if n.A*h.B != n.B*h.A || n.B*h.C != n.C*h.B || n.A*h.C != n.C*h.A || n.A*h.A+n.B*h.B+n.C*h.C <= 0 {
			t.Fatalf("Normal(%v) = %v looks another way", h, n)
		}
		for _, p := range points {
			if (valueAt(h, p) <= 0) != (valueAt(n, p) <= 0) {
				t.Fatalf("Normal(%v) = %v differs at %v", h, n, p)
			}
		}
	}
}

// set returns which of the points lie in a half-space, as bits.
func set(h api.Half, points []api.Vec) []uint64 {
	bits := make([]uint64, len(points)/64+1)
	for i, p := range points {
		if valueAt(h, p) <= 0 {
			bits[i/64] |= 1 << (i % 64)
		}
	}
	return bits
}

func subset(a, b []uint64) bool {
	for i := range a {
		if a[i]&^b[i] != 0 {
			return false
		}
	}
	return true
}

// TestEqualAndWithin compares the points of half-spaces in a cube that is so large that those with small numbers differ in it.
func TestEqualAndWithin(t *testing.T) {
	halves := allHalves(2, 2)
	points := pointsOf(cube(-10, 11))
	sets := make([][]uint64, len(halves))
	for i, h := range halves {
		sets[i] = set(h, points)
	}
	equal, within := 0, 0
	for i, a := range halves {
		for k, b := range halves {
			there, back := subset(sets[i], sets[k]), subset(sets[k], sets[i])
			if is, e := Within(a, b); is != there || e != api.OK {
				t.Fatalf("Within(%v, %v) = %v, %d", a, b, is, e)
			}
			if is, e := Equal(a, b); is != (there && back) || e != api.OK {
				t.Fatalf("Equal(%v, %v) = %v, %d", a, b, is, e)
			}
			if there {
				within++
			}
			if there && back {
				equal++
			}
		}
	}
	if equal <= len(halves) || within <= equal {
		t.Errorf("of %d half-spaces, %d pairs are equal, %d within", len(halves), equal, within)
	}
}

func TestEqualAndWithinOfFew(t *testing.T) {
	for _, c := range []struct {
		a, b          api.Half
		equal, within bool
	}{
		{hf(2, 0, 4, 7), hf(1, 0, 2, 3), true, true},
		{hf(2, 0, 4, 7), hf(3, 0, 6, 11), true, true},
		{hf(2, 0, 4, 7), hf(3, 0, 6, 12), false, true},
		{hf(3, 0, 6, 12), hf(2, 0, 4, 7), false, false},
		{hf(2, 0, 0, 1), hf(1, 0, 0, 0), true, true},
		{hf(2, 0, 0, -1), hf(1, 0, 0, -1), true, true},
		{hf(2, 0, 0, -1), hf(1, 0, 0, 0), false, true},
		{hf(1, 0, 0, 5), hf(1, 0, 0, 5), true, true},
		{hf(1, 0, 0, 5), hf(-1, 0, 0, 5), false, false},
		{hf(1, 0, 0, -5), hf(-1, 0, 0, 5), false, false},
		{hf(1, 0, 0, 5), hf(0, 1, 0, 5), false, false},
		{hf(1, 0, 0, -farD), hf(1, 0, 1, farD), false, false},
		{hf(1, 2, 3, 5), hf(1, 2, 4, 5), false, false},
		{hf(1, 2, 3, 5), hf(1, 3, 3, 5), false, false},
		{hf(999, most, 0, -farD), hf(998, 999, 0, farD), false, false},
		{hf(most, most, 0, -farD), hf(999, 999, 0, farD), false, true},
		{hf(most, most, most, farD), hf(1, 1, 1, 4000000), true, true},
		{hf(most, most, most, farD-1), hf(1, 1, 1, 4000000), false, true},
		{hf(most, most, most, -farD), hf(1, 1, 1, -4000000), true, true},
		{hf(most, most, most, 999-farD), hf(1, 1, 1, -4000000), true, true}, // rounded down
		{hf(most, most, most, 1000-farD), hf(1, 1, 1, -4000000), false, false},
	} {
		if is, e := Equal(c.a, c.b); is != c.equal || e != api.OK {
			t.Errorf("Equal(%v, %v) = %v, %d", c.a, c.b, is, e)
		}
		if is, e := Within(c.a, c.b); is != c.within || e != api.OK {
			t.Errorf("Within(%v, %v) = %v, %d", c.a, c.b, is, e)
		}
	}
}

// TestWithinIsTransitive goes through three half-spaces that look the same way.
func TestWithinIsTransitive(t *testing.T) {
	next := draw(5)
	chains := 0
	for range 20000 {
		n := drawHalf(next, 3, 0)
		var h [3]api.Half
		for i := range h {
			by := 1 + next(4)
			h[i] = hf(n.A*by, n.B*by, n.C*by, int64(next(41)-20))
		}
		ab, _ := Within(h[0], h[1])
		bc, _ := Within(h[1], h[2])
		ac, _ := Within(h[0], h[2])
		ba, _ := Within(h[1], h[0])
		if ab && bc {
			chains++
			if !ac {
				t.Fatalf("Within is not transitive for %v", h)
			}
		}
		if equal, _ := Equal(h[0], h[1]); equal != (ab && ba) {
			t.Fatalf("Equal is not Within in both ways for %v", h)
		}
	}
	if chains < 1000 {
		t.Errorf("%d chains", chains)
	}
}

// modelHull looks at all unit cells of a box.
func modelHull(h api.Half, b api.Box) (api.Box, api.Errno) {
	var out api.Box
	want := api.ErrNone
	for _, p := range pointsOf(b) {
		cell := unit(p)
		if modelSide(h, cell) != Inside {
			continue
		}
		if want != api.OK {
			out, want = cell, api.OK
		}
		out.Min = vec(min(out.Min.X, cell.Min.X), min(out.Min.Y, cell.Min.Y), min(out.Min.Z, cell.Min.Z))
		out.Max = vec(max(out.Max.X, cell.Max.X), max(out.Max.Y, cell.Max.Y), max(out.Max.Z, cell.Max.Z))
	}
	return out, want
}

func TestHull(t *testing.T) {
	next := draw(6)
	none, all, part := 0, 0, 0
	for range 20000 {
		h, b := drawHalf(next, 1+next(5), 20), drawBox(next, 1+next(4))
		want, wantError := modelHull(h, b)
		got, e := Hull(h, b)
		if got != want || e != wantError {
			t.Fatalf("Hull(%v, %v) = %v, %d, want %v, %d", h, b, got, e, want, wantError)
		}
		if modelSide(h, b) == Inside && got != b {
			t.Fatalf("Hull(%v, %v) = %v, but the box lies in the half-space", h, b, got)
		}
		switch {
		case e == api.ErrNone:
			none++
		case got == b:
			all++
		default:
			part++
		}
	}
	if min(none, all, part) < 1500 {
		t.Errorf("%d without a cell, %d whole boxes, %d parts", none, all, part)
	}
}

func TestHullOfFew(t *testing.T) {
	for _, c := range []struct {
		h    api.Half
		b    api.Box
		want api.Box
		e    api.Errno
	}{
		{hf(1, 0, 2, 10), bx(0, 0, 0, 20, 1, 20), bx(0, 0, 0, 8, 1, 4), api.OK},
		{hf(1, 0, 2, 10), bx(0, -7, 0, 20, 9, 20), bx(0, -7, 0, 8, 9, 4), api.OK},
		{hf(1, 0, 2, 3), bx(0, 0, 0, 20, 1, 20), unit(vec(0, 0, 0)), api.OK},
		{hf(1, 0, 2, 2), bx(0, 0, 0, 20, 1, 20), api.Box{}, api.ErrNone},
		{hf(-1, 0, -2, -57), bx(0, 0, 0, 20, 1, 20), unit(vec(19, 0, 19)), api.OK},
		{hf(-1, 0, -2, -58), bx(0, 0, 0, 20, 1, 20), api.Box{}, api.ErrNone},
		{hf(2, 0, 0, 9), bx(0, 0, 0, 20, 1, 1), bx(0, 0, 0, 4, 1, 1), api.OK},
		{hf(-2, 0, 0, -9), bx(0, 0, 0, 20, 1, 1), bx(5, 0, 0, 20, 1, 1), api.OK},
		{hf(0, 0, 1, 0), bx(0, 0, -5, 3, 3, 5), bx(0, 0, -5, 3, 3, 0), api.OK},
		{hf(0, 0, 1, -5), bx(0, 0, -5, 3, 3, 5), api.Box{}, api.ErrNone},
		{hf(1, 0, 0, farD), whole, whole, api.OK},
		{hf(1, 0, 0, -farD), whole, api.Box{}, api.ErrNone},
		{hf(1, 0, 0, 0), whole, bx(-top, -top, -top, 0, top, top), api.OK},
		{hf(most, most, most, -2999997000), whole, cube(-top, 1-top), api.OK},
		{hf(most, most, most, -2999997001), whole, api.Box{}, api.ErrNone},
		{hf(-most, -most, -most, -2999997000), whole, cube(top-1, top), api.OK},
		{hf(-most, -most, -most, -2999997001), whole, api.Box{}, api.ErrNone},
		{hf(most, 1, -1, -999997000), whole, bx(-top, -top, -top, 2002-top, top, top), api.OK},
	} {
		if got, e := Hull(c.h, c.b); got != c.want || e != c.e {
			t.Errorf("Hull(%v, %v) = %v, %d, want %v, %d", c.h, c.b, got, e, c.want, c.e)
		}
	}
}

// shifted returns a box that is moved by a distance in a direction.
func shifted(b api.Box, direction, by int) api.Box {
	way := []api.Vec{vec(by, 0, 0), vec(-by, 0, 0), vec(0, by, 0), vec(0, -by, 0), vec(0, 0, by), vec(0, 0, -by)}[direction]
	return bx(b.Min.X+way.X, b.Min.Y+way.Y, b.Min.Z+way.Z, b.Max.X+way.X, b.Max.Y+way.Y, b.Max.Z+way.Z)
}

func TestDepth(t *testing.T) {
	next := draw(7)
	stopped, free := map[int]int{}, map[int]int{}
	for range 40000 {
		h, b := drawHalf(next, 1+next(3), 30), drawBox(next, 4)
		direction, far := next(6), next(30)
		want, wantError := 0, api.OK
		if modelSide(h, b) != Inside {
			wantError = api.ErrState
		} else {
			for want < far && modelSide(h, shifted(b, direction, want+1)) == Inside {
				want++
			}
		}
		got, e := Depth(h, b, direction, far)
		if got != want || e != wantError {
			t.Fatalf("Depth(%v, %v, %d, %d) = %d, %d, want %d, %d", h, b, direction, far, got, e, want, wantError)
		}
		if e == api.OK && got < far {
			stopped[direction]++
		} else if e == api.OK {
			free[direction]++
		}
	}
	for direction := range 6 {
		if stopped[direction] < 300 || free[direction] < 300 {
			t.Errorf("direction %d: %d stopped, %d free", direction, stopped[direction], free[direction])
		}
	}
}

func TestDepthOfFew(t *testing.T) {
	slanted, b := hf(1, 0, 2, 10), bx(0, 0, 0, 4, 1, 3)
	for _, c := range []struct {
		h               api.Half
		b               api.Box
		direction, most int
		want            int
		e               api.Errno
	}{
		{slanted, b, api.PlusX, 50, 0, api.OK},
		{slanted, b, api.MinusX, 50, 50, api.OK},
		{slanted, b, api.PlusY, 50, 50, api.OK},
		{slanted, b, api.MinusY, 50, 50, api.OK},
		{slanted, b, api.PlusZ, 50, 0, api.OK},
		{slanted, b, api.MinusZ, 50, 50, api.OK},
		{slanted, b, api.MinusX, 0, 0, api.OK},
		{slanted, b, api.MinusX, top, top, api.OK},
		{slanted, bx(0, 0, 0, 3, 1, 1), api.PlusX, top, 5, api.OK},
		{slanted, bx(0, 0, 0, 3, 1, 1), api.PlusZ, top, 2, api.OK},
		{slanted, bx(0, 0, 0, 3, 1, 1), api.PlusX, 5, 5, api.OK},
		{slanted, bx(0, 0, 0, 3, 1, 1), api.PlusX, 4, 4, api.OK},
		{slanted, bx(0, 0, 0, 3, 1, 1), api.PlusX, 6, 5, api.OK},
		{slanted, bx(0, 0, 0, 5, 1, 3), api.MinusX, 50, 0, api.ErrState},
		{slanted, bx(0, 0, 0, 5, 1, 3), api.MinusX, 0, 0, api.ErrState},
		{slanted, bx(10, 0, 0, 11, 1, 1), api.MinusX, 50, 0, api.ErrState},
		{slanted, b, 6, 50, 0, api.ErrRange},
		{slanted, b, -1, 50, 0, api.ErrRange},
		{slanted, b, math.MaxInt, 50, 0, api.ErrRange},
		{slanted, b, math.MinInt, 50, 0, api.ErrRange},
		{slanted, b, api.PlusX, -1, 0, api.ErrRange},
		{slanted, b, api.PlusX, top + 1, 0, api.ErrRange},
		{slanted, b, api.MinusX, top + 1, 0, api.ErrRange},
		{slanted, b, api.MinusX, math.MaxInt, 0, api.ErrRange},
		{slanted, b, api.MinusX, math.MinInt, 0, api.ErrRange},
		{slanted, bx(0, 0, 0, 5, 1, 3), 6, 50, 0, api.ErrRange},
		{slanted, bx(0, 0, 0, 5, 1, 3), api.PlusX, -1, 0, api.ErrRange},
		{hf(1, 0, 0, 0), bx(-top, 0, 0, 1-top, 1, 1), api.PlusX, top, top - 1, api.OK},
		{hf(0, -1, 0, 0), bx(0, top-1, 0, 1, top, 1), api.MinusY, top, top - 1, api.OK},
		{hf(0, 0, 1, farD), whole, api.PlusZ, top, top, api.OK},
		{hf(0, 0, most, farD), whole, api.PlusZ, top, top, api.OK},
		{hf(0, 0, -most, farD), whole, api.MinusZ, top, top, api.OK},
		{hf(0, 0, most, 1999999999), whole, api.PlusZ, top, top - 1, api.OK},
		{hf(most, most, most, 3000000999), whole, api.PlusY, top, 0, api.OK},
		{hf(most, most, most, 3000001000), whole, api.PlusY, top, 1, api.OK},
		{hf(most, most, most, 2999999999), whole, api.PlusY, top, 0, api.ErrState},
	} {
		if n, e := Depth(c.h, c.b, c.direction, c.most); n != c.want || e != c.e {
			t.Errorf("Depth(%v, %v, %d, %d) = %d, %d, want %d, %d", c.h, c.b, c.direction, c.most, n, e, c.want, c.e)
		}
	}
}
