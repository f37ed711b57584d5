package vector

import (
	"math"
	"slices"
	"testing"

	"gangsaw/api"
)

const top = api.MaxCoord

func vec(x, y, z int) api.Vec { return api.Vec{X: x, Y: y, Z: z} }

func pt(x, y int) api.Point { return api.Point{X: x, Y: y} }

func minus(v api.Vec) api.Vec { return vec(-v.X, -v.Y, -v.Z) }

// tooFar has coordinates that are out of range.
var tooFar = []int{top + 1, -top - 1, top + 2, 1 << 31, 1 << 32, -1 << 32, math.MaxInt, math.MinInt, math.MinInt + 1}

// farVectors returns vectors that are out of range in one coordinate or in all of them.
func farVectors() []api.Vec {
	var out []api.Vec
	for _, n := range tooFar {
		out = append(out, vec(n, 0, 0), vec(0, n, 0), vec(0, 0, n), vec(n, n, n), vec(n, top, -top), vec(-n, n, 0))
	}
	return out
}

// farPoints returns points that are out of range in one coordinate or in both.
func farPoints() []api.Point {
	var out []api.Point
	for _, n := range tooFar {
		out = append(out, pt(n, 0), pt(0, n), pt(n, n), pt(top, n), pt(n, -n))
	}
	return out
}

// draw returns numbers that look random and are the same in every run.
func draw(seed uint64) func(below int) int {
	return func(below int) int {
		seed = seed*6364136223846793005 + 1442695040888963407
		return int(seed>>33) % below
	}
}

// drawn returns coordinates of all sizes, from -most to most.
func drawn(next func(below int) int, most int) int {
	sizes := []int{1, 3, 100, most}
	size := min(sizes[next(len(sizes))], most)
	return next(2*size+1) - size
}

func drawVec(next func(below int) int, most int) api.Vec {
	return vec(drawn(next, most), drawn(next, most), drawn(next, most))
}

func drawPoint(next func(below int) int) api.Point { return pt(drawn(next, top), drawn(next, top)) }

// corners returns the vectors whose coordinates are all at the ends of the range or 0.
func corners() []api.Vec {
	var out []api.Vec
	ends := []int{-top, 0, top}
	for _, x := range ends {
		for _, y := range ends {
			for _, z := range ends {
				out = append(out, vec(x, y, z))
			}
		}
	}
	return out
}

func TestCheck(t *testing.T) {
	for _, v := range append(corners(), vec(1, -2, 3), vec(top-1, 1-top, 0)) {
		if e := Check(v); e != api.OK {
			t.Errorf("Check(%v) = %d", v, e)
		}
	}
	for _, v := range farVectors() {
		if e := Check(v); e != api.ErrRange {
			t.Errorf("Check(%v) = %d", v, e)
		}
	}
}

// pairs returns the functions of two vectors; each call reports whether its result is the zero value.
func pairs() map[string]func(a, b api.Vec) (bool, api.Errno) {
	return map[string]func(a, b api.Vec) (bool, api.Errno){
		"Add":      func(a, b api.Vec) (bool, api.Errno) { v, e := Add(a, b); return v == vec(0, 0, 0), e },
		"Sub":      func(a, b api.Vec) (bool, api.Errno) { v, e := Sub(a, b); return v == vec(0, 0, 0), e },
		"Dot":      func(a, b api.Vec) (bool, api.Errno) { n, e := Dot(a, b); return n == 0, e },
		"Cross":    func(a, b api.Vec) (bool, api.Errno) { p, e := Cross(a, b); return p == [3]int64{}, e },
		"Distance": func(a, b api.Vec) (bool, api.Errno) { n, e := Distance(a, b); return n == 0, e },
	}
}

func TestVectorsOutOfRange(t *testing.T) {
	for name, call := range pairs() {
		refuse := func(a, b api.Vec) {
			if zero, e := call(a, b); e != api.ErrRange || !zero {
				t.Errorf("%s(%v, %v): zero %v, error %d", name, a, b, zero, e)
			}
		}
		for _, far := range farVectors() {
			refuse(far, vec(1, 2, 3))
			refuse(vec(1, 2, 3), far)
			refuse(far, far)
			refuse(far, minus(far))
		}
	}
	for _, far := range farVectors() {
		if v, n, e := Primitive(far); e != api.ErrRange || v != vec(0, 0, 0) || n != 0 {
			t.Errorf("Primitive(%v) = %v, %d, %d", far, v, n, e)
		}
	}
}

func TestPointsOutOfRange(t *testing.T) {
	a, b, c := pt(0, 0), pt(10, 0), pt(5, 0)
	refuseTurn := func(a, b, c api.Point) {
		if n, e := Turn(a, b, c); n != 0 || e != api.ErrRange {
			t.Errorf("Turn(%v, %v, %v) = %d, %d", a, b, c, n, e)
		}
		if on, e := On(a, b, c); on || e != api.ErrRange {
			t.Errorf("On(%v, %v, %v) = %v, %d", a, b, c, on, e)
		}
	}
	refuseMeet := func(a, b, c, d api.Point) {
		if n, e := Meet(a, b, c, d); n != 0 || e != api.ErrRange {
			t.Errorf("Meet(%v, %v, %v, %v) = %d, %d", a, b, c, d, n, e)
		}
	}
	for _, far := range farPoints() {
		refuseTurn(far, b, c)
		refuseTurn(a, far, c)
		refuseTurn(a, b, far)
		refuseTurn(far, far, far)
		refuseMeet(far, b, c, a)
		refuseMeet(a, far, c, b)
		refuseMeet(a, b, far, c)
		refuseMeet(a, b, c, far)
		refuseMeet(far, far, far, far)
	}
}

func TestAddAndSub(t *testing.T) {
	for _, c := range []struct{ a, b, sum api.Vec }{
		{vec(1, 2, 3), vec(10, -20, 30), vec(11, -18, 33)},
		{vec(0, 0, 0), vec(-7, 8, top), vec(-7, 8, top)},
		{vec(top, -top, 0), vec(-top, top, 0), vec(0, 0, 0)},
		{vec(top-1, 1-top, top), vec(1, -1, 0), vec(top, -top, top)},
		{vec(top, top, top), vec(-top, -top, -top), vec(0, 0, 0)},
	} {
		for _, order := range [][2]api.Vec{{c.a, c.b}, {c.b, c.a}} {
			if v, e := Add(order[0], order[1]); v != c.sum || e != api.OK {
				t.Errorf("Add(%v, %v) = %v, %d", order[0], order[1], v, e)
			}
		}
		if v, e := Sub(c.sum, c.b); v != c.a || e != api.OK {
			t.Errorf("Sub(%v, %v) = %v, %d", c.sum, c.b, v, e)
		}
		if v, e := Sub(c.sum, c.a); v != c.b || e != api.OK {
			t.Errorf("Sub(%v, %v) = %v, %d", c.sum, c.a, v, e)
		}
	}
	if v, e := Sub(vec(1, 2, 3), vec(10, -20, 30)); v != vec(-9, 22, -27) || e != api.OK {
		t.Errorf("Sub: %v, %d", v, e)
	}
}

func TestSumsOutOfRange(t *testing.T) {
	for _, c := range [][2]api.Vec{
		{vec(top, 0, 0), vec(1, 0, 0)},
		{vec(0, top, 0), vec(0, 1, 0)},
		{vec(0, 0, top), vec(0, 0, 1)},
		{vec(-top, 0, 0), vec(-1, 0, 0)},
		{vec(0, -top, 0), vec(0, -1, 0)},
		{vec(0, 0, -top), vec(0, 0, -1)},
		{vec(top, top, top), vec(top, top, top)},
		{vec(1, 2, top/2+1), vec(3, 4, top/2)},
	} {
		if v, e := Add(c[0], c[1]); v != vec(0, 0, 0) || e != api.ErrRange {
			t.Errorf("Add(%v, %v) = %v, %d", c[0], c[1], v, e)
		}
		if v, e := Sub(c[0], minus(c[1])); v != vec(0, 0, 0) || e != api.ErrRange {
			t.Errorf("Sub(%v, %v) = %v, %d", c[0], minus(c[1]), v, e)
		}
	}
}

func TestAddAndSubAreInverse(t *testing.T) {
	next := draw(1)
	for range 5000 {
		a, b := drawVec(next, top/2), drawVec(next, top/2)
		sum, e := Add(a, b)
		if sum != vec(a.X+b.X, a.Y+b.Y, a.Z+b.Z) || e != api.OK {
			t.Fatalf("Add(%v, %v) = %v, %d", a, b, sum, e)
		}
		if back, e := Sub(sum, b); back != a || e != api.OK {
			t.Fatalf("Sub(%v, %v) = %v, %d, want %v", sum, b, back, e, a)
		}
		difference, e := Sub(a, b)
		if difference != vec(a.X-b.X, a.Y-b.Y, a.Z-b.Z) || e != api.OK {
			t.Fatalf("Sub(%v, %v) = %v, %d", a, b, difference, e)
		}
		if back, e := Add(difference, b); back != a || e != api.OK {
			t.Fatalf("Add(%v, %v) = %v, %d, want %v", difference, b, back, e, a)
		}
	}
}

func TestProductsOfExamples(t *testing.T) {
	a, b := vec(1, 2, 3), vec(4, 5, 6)
	if n, e := Dot(a, b); n != 32 || e != api.OK {
		t.Errorf("Dot: %d, %d", n, e)
	}
	if p, e := Cross(a, b); p != [3]int64{-3, 6, -3} || e != api.OK {
		t.Errorf("Cross: %v, %d", p, e)
	}
	if n, e := Distance(vec(0, 0, 0), vec(1, 2, 2)); n != 9 || e != api.OK {
		t.Errorf("Distance: %d, %d", n, e)
	}
}

// checkProducts compares the products with the formulas of the chapter, written out.
func checkProducts(t *testing.T, a, b api.Vec) {
	t.Helper()
	ax, ay, az := int64(a.X), int64(a.Y), int64(a.Z)
	bx, by, bz := int64(b.X), int64(b.Y), int64(b.Z)
	if n, e := Dot(a, b); n != ax*bx+ay*by+az*bz || e != api.OK {
		t.Fatalf("Dot(%v, %v) = %d, %d", a, b, n, e)
	}
	p, e := Cross(a, b)
	if p != [3]int64{ay*bz - az*by, az*bx - ax*bz, ax*by - ay*bx} || e != api.OK {
		t.Fatalf("Cross(%v, %v) = %v, %d", a, b, p, e)
	}
	if q, e := Cross(b, a); q != [3]int64{-p[0], -p[1], -p[2]} || e != api.OK {
		t.Fatalf("Cross(%v, %v) = %v, %d, not the opposite of %v", b, a, q, e, p)
	}
	// The sums stay below 3 * 2e12 * 1e6, which an int64 holds.
	if ax*p[0]+ay*p[1]+az*p[2] != 0 || bx*p[0]+by*p[1]+bz*p[2] != 0 {
		t.Fatalf("Cross(%v, %v) = %v is not orthogonal to both", a, b, p)
	}
	want := (ax-bx)*(ax-bx) + (ay-by)*(ay-by) + (az-bz)*(az-bz)
	if n, e := Distance(a, b); n != want || e != api.OK {
		t.Fatalf("Distance(%v, %v) = %d, %d, want %d", a, b, n, e, want)
	}
}

func TestProducts(t *testing.T) {
	for _, a := range corners() {
		for _, b := range corners() {
			checkProducts(t, a, b)
		}
	}
	next := draw(2)
	for range 5000 {
		checkProducts(t, drawVec(next, top), drawVec(next, top))
	}
}

func TestGreatestProducts(t *testing.T) {
	low, high := vec(-top, -top, -top), vec(top, top, top)
	if n, e := Dot(high, high); n != 3000000000000 || e != api.OK {
		t.Errorf("Dot: %d, %d", n, e)
	}
	if n, e := Dot(low, high); n != -3000000000000 || e != api.OK {
		t.Errorf("Dot: %d, %d", n, e)
	}
	if n, e := Distance(low, high); n != 12000000000000 || e != api.OK {
		t.Errorf("Distance: %d, %d", n, e)
	}
	if p, e := Cross(vec(top, top, -top), vec(top, -top, top)); p != [3]int64{0, -2000000000000, -2000000000000} || e != api.OK {
		t.Errorf("Cross: %v, %d", p, e)
	}
}

func TestCompare(t *testing.T) {
	least, most := math.MinInt, math.MaxInt
	ordered := []api.Vec{
		vec(least, least, least), vec(least, least, most), vec(least, most, least), vec(least, most, most),
		vec(-top-1, top, top), vec(-top, 0, 0), vec(-1, 5, 5), vec(0, -1, 9), vec(0, 0, -1), vec(0, 0, 0), vec(0, 0, 1),
		vec(0, 1, -9), vec(1, -9, 9), vec(1, 2, 3), vec(1, 2, 4), vec(1, 3, 0), vec(2, 0, 0), vec(top+1, 0, 0),
		vec(most, least, least), vec(most, least, most), vec(most, most, least), vec(most, most, most),
	}
	for i, a := range ordered {
		for k, b := range ordered {
			want := 0
			if i < k {
				want = -1
			} else if i > k {
				want = 1
			}
			if got := Compare(a, b); got != want {
				t.Errorf("Compare(%v, %v) = %d, want %d", a, b, got, want)
			}
		}
	}
}

func TestPrimitive(t *testing.T) {
	for _, c := range []struct {
		v, want api.Vec
		factor  int
	}{
		{vec(6, -9, 0), vec(2, -3, 0), 3},
		{vec(1, 0, 0), vec(1, 0, 0), 1},
		{vec(0, -1, 0), vec(0, -1, 0), 1},
		{vec(0, 0, -12), vec(0, 0, -1), 12},
		{vec(0, 0, 12), vec(0, 0, 1), 12},
		{vec(-4, -6, -8), vec(-2, -3, -4), 2},
		{vec(6, 10, 15), vec(6, 10, 15), 1},
		{vec(0, 6, 4), vec(0, 3, 2), 2},
		{vec(4, 6, 9), vec(4, 6, 9), 1},
		{vec(top, top, -top), vec(1, 1, -1), top},
		{vec(-top, 0, 0), vec(-1, 0, 0), top},
		{vec(top, top-1, 0), vec(top, top-1, 0), 1},
	} {
		if v, n, e := Primitive(c.v); v != c.want || n != c.factor || e != api.OK {
			t.Errorf("Primitive(%v) = %v, %d, %d, want %v, %d", c.v, v, n, e, c.want, c.factor)
		}
	}
	if v, n, e := Primitive(vec(0, 0, 0)); v != vec(0, 0, 0) || n != 0 || e != api.ErrInvalid {
		t.Errorf("Primitive of the zero vector: %v, %d, %d", v, n, e)
	}
}

func TestPrimitiveOfSmallVectors(t *testing.T) {
	const side = 12
	for x := -side; x <= side; x++ {
		for y := -side; y <= side; y++ {
			for z := -side; z <= side; z++ {
				if v := vec(x, y, z); v != vec(0, 0, 0) {
					checkPrimitive(t, v, side)
				}
			}
		}
	}
}

// checkPrimitive looks for the greatest common divisor among all numbers to most.
func checkPrimitive(t *testing.T, v api.Vec, most int) {
	factor := most
	for v.X%factor != 0 || v.Y%factor != 0 || v.Z%factor != 0 {
		factor--
	}
	got, n, e := Primitive(v)
	if n != factor || got != vec(v.X/factor, v.Y/factor, v.Z/factor) || e != api.OK {
		t.Errorf("Primitive(%v) = %v, %d, %d, want the factor %d", v, got, n, e, factor)
	}
	if again, n, e := Primitive(got); again != got || n != 1 || e != api.OK {
		t.Errorf("Primitive(%v) = %v, %d, %d", got, again, n, e)
	}
}

func TestPrimitiveOfMultiples(t *testing.T) {
	next := draw(3)
	for range 2000 {
		v := drawVec(next, 1000)
		if v == vec(0, 0, 0) {
			continue
		}
		base, n, e := Primitive(v)
		if vec(base.X*n, base.Y*n, base.Z*n) != v || n < 1 || e != api.OK {
			t.Fatalf("Primitive(%v) = %v, %d, %d", v, base, n, e)
		}
		k := next(1000) + 1
		if w, m, e := Primitive(vec(k*v.X, k*v.Y, k*v.Z)); w != base || m != k*n || e != api.OK {
			t.Fatalf("Primitive of %d times %v: %v, %d, %d", k, v, w, m, e)
		}
	}
}

func TestTurn(t *testing.T) {
	for _, c := range []struct {
		a, b, c api.Point
		want    int
	}{
		{pt(0, 0), pt(10, 0), pt(5, 1), 1},
		{pt(0, 0), pt(10, 0), pt(5, -1), -1},
		{pt(0, 0), pt(10, 0), pt(5, 0), 0},
		{pt(0, 0), pt(10, 0), pt(-5, 0), 0},
		{pt(3, 4), pt(3, 4), pt(7, 8), 0},
		{pt(3, 4), pt(7, 8), pt(3, 4), 0},
		{pt(7, 8), pt(3, 4), pt(3, 4), 0},
		{pt(5, 5), pt(5, 5), pt(5, 5), 0},
		{pt(-top, -top), pt(top, -top), pt(top, top), 1},
		{pt(top, top), pt(top, -top), pt(-top, -top), -1},
		{pt(-top, -top), pt(top, top), pt(0, 0), 0},
		{pt(-top, -top), pt(top, top-1), pt(1-top, 1-top), 1},
		{pt(-top, -top), pt(top, top-1), pt(top-1, top-2), -1},
	} {
		if n, e := Turn(c.a, c.b, c.c); n != c.want || e != api.OK {
			t.Errorf("Turn(%v, %v, %v) = %d, %d, want %d", c.a, c.b, c.c, n, e, c.want)
		}
	}
}

func TestTurnIsAntisymmetric(t *testing.T) {
	next := draw(4)
	for range 5000 {
		a, b, c := drawPoint(next), drawPoint(next), drawPoint(next)
		area := (b.X-a.X)*(c.Y-a.Y) - (b.Y-a.Y)*(c.X-a.X)
		n, e := Turn(a, b, c)
		if n != sign(area) || e != api.OK {
			t.Fatalf("Turn(%v, %v, %v) = %d, %d", a, b, c, n, e)
		}
		for _, p := range [][3]api.Point{{b, a, c}, {a, c, b}, {c, b, a}} {
			if m, e := Turn(p[0], p[1], p[2]); m != -n || e != api.OK {
				t.Fatalf("Turn of %v: %d, %d, want %d", p, m, e, -n)
			}
		}
	}
}

func sign(n int) int {
	switch {
	case n < 0:
		return -1
	case n > 0:
		return 1
	}
	return 0
}

// onModel finds p by how far along the segment it stands, and by how far beside it.
func onModel(a, b, p api.Point) bool {
	if a == b {
		return p == a
	}
	ux, uy := b.X-a.X, b.Y-a.Y
	vx, vy := p.X-a.X, p.Y-a.Y
	along := ux*vx + uy*vy
	return ux*vy-uy*vx == 0 && along >= 0 && along <= ux*ux+uy*uy
}

// meetModel solves the two equations a + s (b - a) = c + t (d - c) by their determinants.
func meetModel(a, b, c, d api.Point) int {
	ux, uy := b.X-a.X, b.Y-a.Y
	vx, vy := d.X-c.X, d.Y-c.Y
	wx, wy := c.X-a.X, c.Y-a.Y
	if whole := ux*vy - uy*vx; whole != 0 {
		s, t := (wx*vy-wy*vx)*sign(whole), (wx*uy-wy*ux)*sign(whole)
		size := whole * sign(whole)
		if s >= 0 && s <= size && t >= 0 && t <= size {
			return 1
		}
		return 0
	}
	// An overlap of segments that are parallel, or single points, ends at ends of them.
	common := map[api.Point]bool{}
	for _, p := range []api.Point{a, b, c, d} {
		if onModel(a, b, p) && onModel(c, d, p) {
			common[p] = true
		}
	}
	return len(common)
}

func checkMeet(t *testing.T, a, b, c, d api.Point) {
	t.Helper()
	if n, e := Meet(a, b, c, d); n != meetModel(a, b, c, d) || e != api.OK {
		t.Fatalf("Meet(%v, %v, %v, %v) = %d, %d, want %d", a, b, c, d, n, e, meetModel(a, b, c, d))
	}
}

// checkOn also looks at the consequence that p lies on a segment exactly if this and p alone meet.
func checkOn(t *testing.T, a, b, p api.Point) {
	t.Helper()
	want := onModel(a, b, p)
	if on, e := On(a, b, p); on != want || e != api.OK {
		t.Fatalf("On(%v, %v, %v) = %v, %d", a, b, p, on, e)
	}
	if n, e := Meet(a, b, p, p); (n == 1) != want || n > 1 || e != api.OK {
		t.Fatalf("Meet(%v, %v, %v, %v) = %d, %d", a, b, p, p, n, e)
	}
}

func grid(side int) []api.Point {
	var out []api.Point
	for x := range side {
		for y := range side {
			out = append(out, pt(x, y))
		}
	}
	return out
}

func TestSegmentsOfSmallGrid(t *testing.T) {
	points := grid(4)
	for _, a := range points {
		for _, b := range points {
			for _, c := range points {
				checkOn(t, a, b, c)
				for _, d := range points {
					checkMeet(t, a, b, c, d)
				}
			}
		}
	}
}

func TestOnExamples(t *testing.T) {
	for _, c := range []struct {
		a, b, p api.Point
		want    bool
	}{
		{pt(0, 0), pt(10, 0), pt(5, 0), true},
		{pt(0, 0), pt(10, 0), pt(11, 0), false},
		{pt(0, 0), pt(10, 0), pt(-1, 0), false},
		{pt(0, 0), pt(10, 0), pt(0, 0), true},
		{pt(0, 0), pt(10, 0), pt(10, 0), true},
		{pt(0, 0), pt(10, 0), pt(5, 1), false},
		{pt(0, 10), pt(0, 0), pt(0, 5), true},
		{pt(0, 10), pt(0, 0), pt(0, 11), false},
		{pt(0, 10), pt(10, 0), pt(4, 6), true},
		{pt(0, 10), pt(10, 0), pt(-1, 11), false},
		{pt(3, 4), pt(3, 4), pt(3, 4), true},
		{pt(3, 4), pt(3, 4), pt(3, 5), false},
		{pt(-top, -top), pt(top, top), pt(123, 123), true},
		{pt(-top, -top), pt(top, top), pt(top, top), true},
		{pt(-top, -top), pt(top, top-1), pt(0, 0), false},
		{pt(-top, -top), pt(top, top-2), pt(0, -1), true},
	} {
		for _, ends := range [][2]api.Point{{c.a, c.b}, {c.b, c.a}} {
			if on, e := On(ends[0], ends[1], c.p); on != c.want || e != api.OK {
				t.Errorf("On(%v, %v, %v) = %v, %d", ends[0], ends[1], c.p, on, e)
			}
		}
	}
}

func TestMeetExamples(t *testing.T) {
	for _, c := range []struct {
		name       string
		a, b, c, d api.Point
		want       int
	}{
		{"crossing", pt(0, 0), pt(10, 10), pt(0, 10), pt(10, 0), 1},
		{"crossing beside all integers", pt(0, 0), pt(1, 1), pt(0, 1), pt(1, 0), 1},
		{"overlapping", pt(0, 0), pt(10, 0), pt(5, 0), pt(20, 0), 2},
		{"touching on a line", pt(0, 0), pt(5, 0), pt(5, 0), pt(9, 0), 1},
		{"apart on a line", pt(0, 0), pt(5, 0), pt(6, 0), pt(9, 0), 0},
		{"inside", pt(0, 0), pt(9, 9), pt(3, 3), pt(4, 4), 2},
		{"inside with a common end", pt(0, 0), pt(9, 9), pt(0, 0), pt(4, 4), 2},
		{"the same", pt(0, 0), pt(9, 9), pt(0, 0), pt(9, 9), 2},
		{"the same, upright", pt(4, 0), pt(4, 9), pt(4, 9), pt(4, 0), 2},
		{"upright, apart", pt(4, 0), pt(4, 3), pt(4, 9), pt(4, 4), 0},
		{"parallel", pt(0, 0), pt(10, 0), pt(0, 1), pt(10, 1), 0},
		{"an end within", pt(0, 0), pt(10, 0), pt(5, 0), pt(5, 7), 1},
		{"an end just beside", pt(0, 0), pt(10, 0), pt(5, 1), pt(5, 7), 0},
		{"a common end", pt(0, 0), pt(10, 0), pt(10, 0), pt(12, 5), 1},
		{"one stops before the other", pt(0, 0), pt(4, 0), pt(5, -5), pt(5, 5), 0},
		{"only the lines meet", pt(0, 0), pt(1, 0), pt(5, 1), pt(5, 9), 0},
		{"a point within", pt(0, 0), pt(10, 0), pt(3, 0), pt(3, 0), 1},
		{"a point at an end", pt(0, 0), pt(10, 0), pt(10, 0), pt(10, 0), 1},
		{"a point behind an end", pt(0, 0), pt(10, 0), pt(11, 0), pt(11, 0), 0},
		{"a point beside", pt(0, 0), pt(10, 0), pt(3, 1), pt(3, 1), 0},
		{"one point twice", pt(3, 1), pt(3, 1), pt(3, 1), pt(3, 1), 1},
		{"two points", pt(3, 1), pt(3, 1), pt(3, 2), pt(3, 2), 0},
		{"diagonals of the range", pt(-top, -top), pt(top, top), pt(-top, top), pt(top, -top), 1},
		{"nearly parallel, crossing", pt(-top, -top), pt(top, top), pt(-top, 1-top), pt(top, top-1), 1},
		{"nearly parallel, apart", pt(-top, -top), pt(top, top-1), pt(1-top, 1-top), pt(top, top), 0},
		{"side and corner of the range", pt(-top, -top), pt(-top, top), pt(-top, top), pt(top, top), 1},
	} {
		swapped := [][4]api.Point{{c.a, c.b, c.c, c.d}, {c.b, c.a, c.c, c.d}, {c.a, c.b, c.d, c.c}, {c.c, c.d, c.a, c.b}, {c.d, c.c, c.b, c.a}}
		for _, p := range swapped {
			if n, e := Meet(p[0], p[1], p[2], p[3]); n != c.want || e != api.OK {
				t.Errorf("%s: Meet of %v: %d, %d, want %d", c.name, p, n, e, c.want)
			}
		}
	}
}

func TestLargerSegments(t *testing.T) {
	next := draw(5)
	for range 5000 {
		p := []api.Point{drawPoint(next), drawPoint(next), drawPoint(next), drawPoint(next)}
		checkOn(t, p[0], p[1], p[2])
		checkMeet(t, p[0], p[1], p[2], p[3])
	}
}

// TestSegmentsOfOneLine draws points of a line, where random points would hardly ever lie.
func TestSegmentsOfOneLine(t *testing.T) {
	next := draw(6)
	for range 5000 {
		start, step := pt(drawn(next, 1000), drawn(next, 1000)), pt(drawn(next, 1000), drawn(next, 1000))
		var p []api.Point
		for range 4 {
			k := next(9) - 4
			p = append(p, pt(start.X+k*step.X, start.Y+k*step.Y))
		}
		checkOn(t, p[0], p[1], p[2])
		checkMeet(t, p[0], p[1], p[2], p[3])
	}
}

func TestMeetDoesNotDependOnTheOrder(t *testing.T) {
	next := draw(7)
	for range 5000 {
		var p []api.Point
		for range 4 {
			p = append(p, pt(next(5), next(5)))
		}
		n, _ := Meet(p[0], p[1], p[2], p[3])
		turned := []api.Point{p[3], p[2], p[0], p[1]}
		swapped := slices.Concat(p[2:], p[:2])
		for _, q := range [][]api.Point{turned, swapped, {p[1], p[0], p[2], p[3]}, {p[0], p[1], p[3], p[2]}} {
			if m, e := Meet(q[0], q[1], q[2], q[3]); m != n || e != api.OK {
				t.Fatalf("Meet of %v: %d, of %v: %d, %d", p, n, q, m, e)
			}
		}
	}
}
