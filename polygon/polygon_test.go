package polygon

import (
	"math"
	"slices"
	"testing"

	"gangsaw/api"
)

const top = api.MaxCoord

func pt(x, y int) api.Point { return api.Point{X: x, Y: y} }

// poly returns the polygon with these coordinates: x and y of the first corner, of the second one, and so on.
func poly(numbers ...int) api.Polygon {
	var out api.Polygon
	for i := 0; i < len(numbers); i += 2 {
		out = append(out, pt(numbers[i], numbers[i+1]))
	}
	return out
}

// turned returns the same polygon from another corner on.
func turned(p api.Polygon, by int) api.Polygon {
	return append(slices.Clone(p[by:]), p[:by]...)
}

// parabola returns points in convex position, from the least one on.
func parabola(n int) []api.Point {
	var out []api.Point
	for i := range n {
		x := i - n/2
		out = append(out, pt(x, x*x))
	}
	return out
}

// draw returns numbers that look random and are the same in every run.
func draw(seed uint64) func(below int) int {
	return func(below int) int {
		seed = seed*6364136223846793005 + 1442695040888963407
		return int(seed>>33) % below
	}
}

func drawPoints(next func(below int) int, count, below int) []api.Point {
	out := make([]api.Point, count)
	for i := range out {
		out[i] = pt(next(below), next(below))
	}
	return out
}

// drawValid returns a polygon with corners from 0 to below - 1.
func drawValid(next func(below int) int, corners, below int) api.Polygon {
	for {
		if p := api.Polygon(drawPoints(next, corners, below)); Check(p) == api.OK {
			return p
		}
	}
}

// functions returns the functions of a polygon that have an error; each call reports whether its results are zero values.
func functions() map[string]func(p api.Polygon) (bool, api.Errno) {
	return map[string]func(p api.Polygon) (bool, api.Errno){
		"Check":     func(p api.Polygon) (bool, api.Errno) { return true, Check(p) },
		"Area2":     func(p api.Polygon) (bool, api.Errno) { n, e := Area2(p); return n == 0, e },
		"Simple":    func(p api.Polygon) (bool, api.Errno) { is, e := Simple(p); return !is, e },
		"Convex":    func(p api.Polygon) (bool, api.Errno) { is, e := Convex(p); return !is, e },
		"Side":      func(p api.Polygon) (bool, api.Errno) { n, e := Side(p, pt(top, -top)); return n == 0, e },
		"Canonical": func(p api.Polygon) (bool, api.Errno) { q, e := Canonical(p); return len(q) == 0, e },
		"Bounds": func(p api.Polygon) (bool, api.Errno) {
			a, b, e := Bounds(p)
			return a == pt(0, 0) && b == pt(0, 0), e
		},
	}
}

// tooFar has coordinates that are not allowed.
var tooFar = []int{top + 1, -top - 1, top + 2, 1 << 31, 1 << 32, -1 << 32, math.MaxInt, math.MinInt, math.MinInt + 1}

type refusal struct {
	p    api.Polygon
	want api.Errno
}

// refusals returns polygons that are not valid, with their first error.
func refusals() []refusal {
	many := api.Polygon(parabola(api.MaxCorners + 1))
	manyFar := append(poly(top+1, 0, top+1, 0), many[2:]...)
	out := []refusal{
		{many, api.ErrTooMany},
		{manyFar, api.ErrTooMany},
		{make(api.Polygon, api.MaxCorners+1), api.ErrTooMany},
		{make(api.Polygon, 100000), api.ErrTooMany},
		{nil, api.ErrInvalid},
		{api.Polygon{}, api.ErrInvalid},
		{poly(1, 1), api.ErrInvalid},
		{poly(1, 1, 2, 2), api.ErrInvalid},
		{poly(1, 1, 1, 1), api.ErrInvalid},
		{poly(top+1, 0, 0, -top-1), api.ErrInvalid},
		{poly(0, 0, 0, 0, 0, top+1), api.ErrRange},
		{poly(top+1, 0, top+1, 0, 0, 0), api.ErrRange},
		{poly(0, 0, 10, 10, 10, 0, 0, top+1), api.ErrRange},
		{poly(0, 0, 10, 0, 10, 10, 0, 0), api.ErrDuplicate},
		{poly(1, 1, 1, 1, 1, 1), api.ErrDuplicate},
		{poly(0, 0, 10, 10, 10, 10, 10, 0, 0, 10), api.ErrDuplicate},
		{make(api.Polygon, api.MaxCorners), api.ErrDuplicate},
	}
	square := poly(0, 0, 10, 0, 10, 10, 0, 10)
	for i := range square {
		for _, n := range tooFar {
			x, y := slices.Clone(square), slices.Clone(square)
			x[i].X, y[i].Y = n, n
			out = append(out, refusal{x, api.ErrRange}, refusal{y, api.ErrRange})
		}
		out = append(out, refusal{slices.Insert(slices.Clone(square), i, square[i]), api.ErrDuplicate})
	}
	return out
}

func TestRefusals(t *testing.T) {
	for name, call := range functions() {
		for _, c := range refusals() {
			if zero, e := call(c.p); e != c.want || !zero {
				t.Errorf("%s of %d corners %v: zero %v, error %d, want %d", name, len(c.p), c.p[:min(len(c.p), 5)], zero, e, c.want)
			}
		}
	}
}

func TestSideChecksThePoint(t *testing.T) {
	square := poly(0, 0, 10, 0, 10, 10, 0, 10)
	for _, n := range tooFar {
		for _, q := range []api.Point{pt(n, 5), pt(5, n), pt(n, n)} {
			for _, c := range []refusal{
				{square, api.ErrRange},
				{poly(0, 0, 10, 10, 10, 0, 0, 10), api.ErrRange},
				{poly(0, 0, 0, 0, 10, 0, 10, 10), api.ErrRange},
				{poly(0, 0, 10, 0), api.ErrInvalid},
				{parabola(api.MaxCorners + 1), api.ErrTooMany},
			} {
				if n, e := Side(c.p, q); n != 0 || e != c.want {
					t.Errorf("Side(%v, %v) = %d, %d, want %d", c.p, q, n, e, c.want)
				}
			}
		}
	}
}

// notSimple has valid polygons that are not simple.
func notSimple() []api.Polygon {
	return []api.Polygon{
		poly(0, 0, 10, 10, 10, 0, 0, 10),                 // a bow tie
		poly(0, 0, 5, 0, 10, 0),                          // all on one line
		poly(0, 0, 10, 0, 5, 0),                          // back on its own side
		poly(0, 0, 10, 0, 10, 10, 10, 5),                 // a side on its neighbour
		poly(0, 0, 10, 0, 5, 0, 5, 5),                    // a spike
		poly(0, 0, 10, 0, 0, 0, 0, 10),                   // there and back
		poly(0, 0, 4, 0, 4, 4, 2, 0, 0, 4),               // a corner on a side
		poly(0, 0, 4, 0, 2, 2, 4, 4, 0, 4, 2, 2),         // two equal corners that are no neighbours
		poly(0, 0, 6, 0, 6, 2, 4, 0, 2, 0, 0, 2),         // a side on another one
		poly(0, 0, 4, 0, 4, 4, 0, 0, 4, 0, 4, 4),         // twice around
		poly(0, 10, 4, -8, -9, 3, 9, 3, -4, -8),          // a star that turns to the left or to the right at each corner
		poly(-4, -8, 9, 3, -9, 3, 4, -8, 0, 10),          // the same star the other way around
		poly(-top, -top, top, top, top, -top, -top, top), // the greatest bow tie
	}
}

func TestNotSimple(t *testing.T) {
	for _, p := range notSimple() {
		for by := range p {
			for _, q := range []api.Polygon{turned(p, by), Reverse(turned(p, by))} {
				if is, e := Simple(q); is || e != api.OK {
					t.Errorf("Simple(%v) = %v, %d", q, is, e)
				}
				if is, e := Convex(q); is || e != api.OK {
					t.Errorf("Convex(%v) = %v, %d", q, is, e)
				}
				if n, e := Side(q, q[0]); n != 0 || e != api.ErrConflict {
					t.Errorf("Side(%v) = %d, %d", q, n, e)
				}
				if c, e := Canonical(q); len(c) != 0 || e != api.ErrConflict {
					t.Errorf("Canonical(%v) = %v, %d", q, c, e)
				}
				if e := Check(q); e != api.OK {
					t.Errorf("Check(%v) = %d", q, e)
				}
				if _, e := Area2(q); e != api.OK {
					t.Errorf("Area2(%v): %d", q, e)
				}
				if _, _, e := Bounds(q); e != api.OK {
					t.Errorf("Bounds(%v): %d", q, e)
				}
			}
		}
	}
}

func TestLimitsOfCorners(t *testing.T) {
	full := api.Polygon(parabola(api.MaxCorners))
	for _, p := range []api.Polygon{full, poly(0, 0, 1, 0, 0, 1), poly(-top, -top, top, -top, top, top, -top, top)} {
		for name, call := range functions() {
			if _, e := call(p); e != api.OK {
				t.Errorf("%s of %d corners: %d", name, len(p), e)
			}
		}
		if is, _ := Convex(p); !is {
			t.Errorf("Convex(%v) = false", p)
		}
	}
}

func TestOrient(t *testing.T) {
	for _, c := range []struct {
		a, b, c api.Point
		want    int
	}{
		{pt(0, 0), pt(10, 0), pt(5, 1), 1},
		{pt(0, 0), pt(10, 0), pt(5, -1), -1},
		{pt(0, 0), pt(10, 0), pt(-5, 0), 0},
		{pt(3, 3), pt(3, 3), pt(4, 9), 0},
		{pt(-top, -top), pt(top, top), pt(top-1, top), 1},
		{pt(-top, -top), pt(top, top), pt(top, top-1), -1},
		{pt(-top, -top), pt(top, top), pt(0, 0), 0},
		{pt(-top, -top), pt(top, -top), pt(top, top), 1},
		{pt(-top, top), pt(top, top-1), pt(top-1, top-1), -1},
	} {
		if got := Orient(c.a, c.b, c.c); got != c.want {
			t.Errorf("Orient(%v, %v, %v) = %d", c.a, c.b, c.c, got)
		}
	}
	next := draw(1)
	for range 5000 {
		p := drawPoints(next, 3, []int{3, 10, top}[next(3)])
		a, b, c := p[0], p[1], p[2]
		n := (b.X-a.X)*(c.Y-a.Y) - (b.Y-a.Y)*(c.X-a.X)
		got := Orient(a, b, c)
		if got*n < 0 || (got == 0) != (n == 0) || got < -1 || got > 1 {
			t.Fatalf("Orient(%v, %v, %v) = %d, the product is %d", a, b, c, got, n)
		}
	}
	for _, n := range tooFar {
		Orient(pt(n, 0), pt(0, n), pt(n, n))
	}
}

func TestArea2(t *testing.T) {
	zigzag := make(api.Polygon, api.MaxCorners)
	for i := range zigzag {
		zigzag[i] = []api.Point{pt(-top, -top), pt(top, -top), pt(top, top), pt(-top, top)}[i%4]
	}
	for _, c := range []struct {
		p    api.Polygon
		want int64
	}{
		{poly(0, 0, 10, 0, 10, 10, 0, 10), 200},
		{poly(0, 0, 10, 10, 10, 0, 0, 10), 0},
		{poly(0, 0, 1, 0, 0, 1), 1},
		{poly(0, 0, 0, 1, 1, 0), -1},
		{poly(5, 5, 8, 5, 5, 9), 12},
		{poly(0, 0, 5, 0, 10, 0), 0},
		{poly(-top, -top, top, -top, top, top, -top, top), 8000000000000},
		{zigzag, api.MaxCorners / 4 * 8000000000000},
	} {
		if n, e := Area2(c.p); n != c.want || e != api.OK {
			t.Errorf("Area2(%v) = %d, %d, want %d", c.p, n, e, c.want)
		}
		if n, e := Area2(Reverse(c.p)); n != -c.want || e != api.OK {
			t.Errorf("Area2 of the reverse of %v = %d, %d, want %d", c.p, n, e, -c.want)
		}
	}
}

// TestArea2OfParts adds up the triangles over the first corner instead of the products.
func TestArea2OfParts(t *testing.T) {
	next := draw(2)
	for range 2000 {
		p := drawValid(next, 3+next(10), []int{4, 1000, top}[next(3)])
		want := 0
		for i := 1; i+1 < len(p); i++ {
			a, b := pt(p[i].X-p[0].X, p[i].Y-p[0].Y), pt(p[i+1].X-p[0].X, p[i+1].Y-p[0].Y)
			want += a.X*b.Y - a.Y*b.X
		}
		if n, e := Area2(p); n != int64(want) || e != api.OK {
			t.Fatalf("Area2(%v) = %d, %d, want %d", p, n, e, want)
		}
	}
}

// meeting counts the common points of two sides that have a length, up to 2: it solves a + t (b - a) = c + u (d - c).
func meeting(a, b, c, d api.Point) int {
	cross := func(p, q api.Point) int { return p.X*q.Y - p.Y*q.X }
	less := func(p, q api.Point) api.Point { return pt(p.X-q.X, p.Y-q.Y) }
	r, s, w := less(b, a), less(d, c), less(c, a)
	if n := cross(r, s); n != 0 {
		t, u := cross(w, s), cross(w, r)
		if n < 0 {
			n, t, u = -n, -t, -u
		}
		if t >= 0 && t <= n && u >= 0 && u <= n {
			return 1
		}
		return 0
	}
	if cross(w, r) != 0 {
		return 0
	}
	along := func(p api.Point) int { return p.X*r.X + p.Y*r.Y }
	from := max(min(along(a), along(b)), min(along(c), along(d)))
	to := min(max(along(a), along(b)), max(along(c), along(d)))
	return min(max(to-from+1, 0), 2)
}

func modelSimple(p api.Polygon) bool {
	n := len(p)
	for i := range p {
		for k := range p {
			allowed := 0
			if (i+1)%n == k || (k+1)%n == i {
				allowed = 1
			}
			if i != k && meeting(p[i], p[(i+1)%n], p[k], p[(k+1)%n]) > allowed {
				return false
			}
		}
	}
	return true
}

func TestSimple(t *testing.T) {
	next := draw(3)
	count := [2]int{}
	for range 30000 {
		p := drawValid(next, 3+next(6), 2+next(6))
		want := modelSimple(p)
		if is, e := Simple(p); is != want || e != api.OK {
			t.Fatalf("Simple(%v) = %v, %d, want %v", p, is, e, want)
		}
		if want {
			count[1]++
		} else {
			count[0]++
		}
	}
	if count[0] < 1000 || count[1] < 1000 {
		t.Errorf("%d polygons that are not simple, %d that are", count[0], count[1])
	}
}

func TestConvex(t *testing.T) {
	for _, c := range []struct {
		p    api.Polygon
		want bool
	}{
		{poly(0, 0, 10, 0, 10, 10, 0, 10), true},
		{poly(0, 10, 10, 10, 10, 0, 0, 0), false},
		{poly(0, 0, 5, 0, 10, 0, 10, 10, 0, 10), false},
		{poly(0, 0, 10, 0, 10, 10, 5, 9, 0, 10), false},
		{poly(0, 0, 10, 0, 10, 10, 5, 11, 0, 10), true},
		{poly(0, 5, 0, 0, 10, 0, 10, 10, 0, 10), false},
		{poly(0, 0, 1, 0, 0, 1), true},
		{poly(0, 0, 0, 1, 1, 0), false},
		{poly(-top, -top, top, -top, top, top-1), true},
		{poly(0, 10, -4, -8, 9, 3, -9, 3, 4, -8), false},
	} {
		for by := range c.p {
			if is, e := Convex(turned(c.p, by)); is != c.want || e != api.OK {
				t.Errorf("Convex(%v) = %v, %d", turned(c.p, by), is, e)
			}
		}
	}
}

// TestConvexIsItsHull compares polygons with the hulls of their corners: those that are convex are the same.
func TestConvexIsItsHull(t *testing.T) {
	next := draw(4)
	count := 0
	for range 30000 {
		p := drawValid(next, 3+next(4), 2+next(9))
		hull, e := Hull(p)
		first := slices.Index(p, slices.MinFunc(p, compare))
		want := e == api.OK && slices.Equal(turned(p, first), hull)
		if is, e := Convex(p); is != want || e != api.OK {
			t.Fatalf("Convex(%v) = %v, %d, want %v", p, is, e, want)
		}
		if want {
			count++
		}
	}
	if count < 1000 {
		t.Errorf("%d convex polygons", count)
	}
}

func TestSide(t *testing.T) {
	square := poly(0, 0, 10, 0, 10, 10, 0, 10)
	comb := poly(0, 0, 12, 0, 12, 6, 10, 1, 8, 6, 6, 1, 4, 6, 2, 1, 0, 6)
	steps := poly(0, 0, 3, 0, 3, 2, 2, 2, 2, 4, 0, 4, 0, 3, 1, 3, 1, 1, 0, 1)
	huge := poly(-top, -top, top, -top, 0, top)
	for _, c := range []struct {
		p    api.Polygon
		q    api.Point
		want int
	}{
		{square, pt(5, 5), 1}, {square, pt(10, 5), 0}, {square, pt(11, 5), -1}, {square, pt(-1, 5), -1},
		{square, pt(0, 0), 0}, {square, pt(10, 10), 0}, {square, pt(-1, 0), -1}, {square, pt(-5, 10), -1}, {square, pt(11, 0), -1},
		{square, pt(5, -1), -1}, {square, pt(5, 11), -1}, {square, pt(1, 1), 1}, {square, pt(9, 9), 1}, {square, pt(-top, top), -1},
		{comb, pt(1, 1), 1}, {comb, pt(2, 1), 0}, {comb, pt(3, 1), 1}, {comb, pt(2, 2), -1}, {comb, pt(-1, 1), -1}, {comb, pt(-1, 6), -1}, {comb, pt(2, 6), -1}, {comb, pt(4, 5), 1},
		{steps, pt(1, 2), 0}, {steps, pt(0, 2), -1}, {steps, pt(-1, 1), -1}, {steps, pt(-1, 3), -1}, {steps, pt(2, 1), 1}, {steps, pt(1, 1), 0}, {steps, pt(3, 3), -1},
		{huge, pt(0, 0), 1}, {huge, pt(0, top), 0}, {huge, pt(top, top), -1}, {huge, pt(top, 1-top), -1}, {huge, pt(top-1, 1-top), 1}, {huge, pt(top-1, 2-top), 0}, {huge, pt(500000, 0), 0}, {huge, pt(500001, 0), -1}, {huge, pt(499999, 0), 1},
	} {
		for by := range c.p {
			for _, p := range []api.Polygon{turned(c.p, by), Reverse(turned(c.p, by))} {
				if n, e := Side(p, c.q); n != c.want || e != api.OK {
					t.Errorf("Side(%v, %v) = %d, %d, want %d", p, c.q, n, e, c.want)
				}
			}
		}
	}
}

// modelSide follows the definition: a ray so flat that it meets no other point of a small grid crosses an odd number of sides.
func modelSide(p api.Polygon, q api.Point) int {
	far := pt(q.X+100000, q.Y+100)
	side := -1
	for i, a := range p {
		b := p[(i+1)%len(p)]
		if onSide(a, b, q) {
			return 0
		}
		if meeting(a, b, q, far) == 1 {
			side = -side
		}
	}
	return side
}

func onSide(a, b, q api.Point) bool {
	line := (b.X-a.X)*(q.Y-a.Y) == (b.Y-a.Y)*(q.X-a.X)
	return line && min(a.X, b.X) <= q.X && q.X <= max(a.X, b.X) && min(a.Y, b.Y) <= q.Y && q.Y <= max(a.Y, b.Y)
}

// drawSimple returns a simple polygon with corners from 0 to below - 1.
func drawSimple(next func(below int) int, corners, below int) api.Polygon {
	for {
		if p := drawValid(next, corners, below); modelSimple(p) {
			return p
		}
	}
}

// TestSideOfGrids checks all points of a grid, and with them Pick's theorem.
func TestSideOfGrids(t *testing.T) {
	next := draw(5)
	for range 1500 {
		below := 4 + next(6)
		p := drawSimple(next, 3+next(5), below)
		count := map[int]int{}
		for x := -2; x <= below+1; x++ {
			for y := -2; y <= below+1; y++ {
				n, e := Side(p, pt(x, y))
				if want := modelSide(p, pt(x, y)); n != want || e != api.OK {
					t.Fatalf("Side(%v, %v) = %d, %d, want %d", p, pt(x, y), n, e, want)
				}
				count[n]++
			}
		}
		area, _ := Area2(p)
		if int64(2*count[1]+count[0]) != max(area, -area)+2 {
			t.Fatalf("%v has %d points inside, %d on its sides, the doubled area %d", p, count[1], count[0], area)
		}
	}
}

func TestHullOfExamples(t *testing.T) {
	for _, c := range []struct{ list, want api.Polygon }{
		{poly(0, 0, 4, 0, 2, 0, 2, 1, 2, 5), poly(0, 0, 4, 0, 2, 5)},
		{poly(10, 10, 0, 10, 10, 0, 0, 0, 5, 5), poly(0, 0, 10, 0, 10, 10, 0, 10)},
		{poly(0, 0, 0, 5, 0, 10, 5, 10, 10, 10, 10, 5, 10, 0, 5, 0), poly(0, 0, 10, 0, 10, 10, 0, 10)},
		{poly(1, 0, 0, 1, 1, 2, 2, 1, 1, 1), poly(0, 1, 1, 0, 2, 1, 1, 2)},
		{poly(3, 3, 3, 3, 0, 0, 0, 0, 3, 0, 3, 0), poly(0, 0, 3, 0, 3, 3)},
		{poly(top, top, -top, -top, top, -top, 0, 0, -top, top), poly(-top, -top, top, -top, top, top, -top, top)},
		{poly(0, 0, 1, 1, 2, 2, 3, 4), poly(0, 0, 2, 2, 3, 4)},
		{poly(0, 0, 1, 1, 2, 2, 3, 2), poly(0, 0, 3, 2, 2, 2)},
	} {
		if p, e := Hull(c.list); !slices.Equal(p, c.want) || e != api.OK {
			t.Errorf("Hull(%v) = %v, %d, want %v", c.list, p, e, c.want)
		}
	}
}

func TestHullErrors(t *testing.T) {
	var row []api.Point
	for i := range MaxPoints {
		row = append(row, pt(3*i%MaxPoints, 7*(3*i%MaxPoints)))
	}
	many := slices.Repeat(parabola(7), MaxPoints)[:MaxPoints+1]
	manyFar := append(slices.Clone(row), pt(top+1, 0))
	for _, c := range []struct {
		list []api.Point
		want api.Errno
	}{
		{nil, api.ErrNone},
		{[]api.Point{}, api.ErrNone},
		{poly(3, 4), api.ErrNone},
		{poly(3, 4, 3, 4), api.ErrNone},
		{poly(3, 4, 5, 6), api.ErrNone},
		{poly(3, 4, 3, 4, 3, 4, 3, 4), api.ErrNone},
		{poly(3, 4, 5, 6, 3, 4, 5, 6), api.ErrNone},
		{poly(0, 0, 1, 1, 2, 2), api.ErrNone},
		{poly(2, 2, 0, 0, 1, 1), api.ErrNone},
		{poly(5, 0, 5, 9, 5, -3, 5, 2), api.ErrNone},
		{poly(0, 5, 9, 5, -3, 5), api.ErrNone},
		{poly(-top, top, 0, 0, top, -top), api.ErrNone},
		{row, api.ErrNone},
		{many, api.ErrTooMany},
		{manyFar, api.ErrTooMany},
		{make([]api.Point, MaxPoints+1), api.ErrTooMany},
		{make([]api.Point, MaxPoints), api.ErrNone},
		{poly(top+1, 0), api.ErrRange},
		{poly(0, 0, 1, 1, 2, 2, 0, -top-1), api.ErrRange},
		{append(slices.Clone(row[1:]), pt(0, top+1)), api.ErrRange},
	} {
		if p, e := Hull(c.list); len(p) != 0 || e != c.want {
			t.Errorf("Hull of %d points %v = %v, %d, want %d", len(c.list), c.list[:min(len(c.list), 5)], p, e, c.want)
		}
	}
	for _, n := range tooFar {
		for _, q := range []api.Point{pt(n, 0), pt(0, n), pt(n, n)} {
			if p, e := Hull(append(poly(0, 0, 9, 0, 0, 9), q)); len(p) != 0 || e != api.ErrRange {
				t.Errorf("Hull with %v = %v, %d", q, p, e)
			}
		}
	}
}

func TestHullOfMostPoints(t *testing.T) {
	want := parabola(MaxPoints)
	var mixed []api.Point
	for i := range want {
		mixed = append(mixed, want[i*387%MaxPoints])
	}
	if p, e := Hull(mixed); !slices.Equal(p, want) || e != api.OK {
		t.Errorf("Hull of %d points has %d corners, error %d", len(mixed), len(p), e)
	}
}

// TestHull checks what makes a hull the only one: its corners are points of the list, it is convex, and no point is outside.
func TestHull(t *testing.T) {
	next := draw(6)
	for range 3000 {
		list := drawPoints(next, 1+next(40), []int{2, 3, 10, 1000, top}[next(5)])
		kept := slices.Clone(list)
		p, e := Hull(list)
		if !slices.Equal(list, kept) {
			t.Fatalf("Hull changed %v to %v", kept, list)
		}
		if line := onOneLine(list); (e == api.ErrNone) != line || (e == api.OK) == line {
			t.Fatalf("Hull(%v) = %v, %d, but on one line: %v", list, p, e, line)
		}
		if e == api.OK {
			checkHull(t, list, p)
		}
	}
}

func onOneLine(list []api.Point) bool {
	for _, b := range list {
		for _, c := range list {
			a := list[0]
			if (b.X-a.X)*(c.Y-a.Y) != (b.Y-a.Y)*(c.X-a.X) {
				return false
			}
		}
	}
	return true
}

func checkHull(t *testing.T, list []api.Point, p api.Polygon) {
	t.Helper()
	if is, e := Convex(p); !is || e != api.OK {
		t.Fatalf("the hull %v of %v is not convex", p, list)
	}
	if p[0] != slices.MinFunc(list, compare) {
		t.Fatalf("the hull %v of %v does not begin with the least point", p, list)
	}
	for _, c := range p {
		if !slices.Contains(list, c) {
			t.Fatalf("the hull %v of %v has the corner %v", p, list, c)
		}
	}
	for _, q := range list {
		if n, e := Side(p, q); n < 0 || e != api.OK {
			t.Fatalf("%v lies outside the hull %v of %v", q, p, list)
		}
	}
}

func TestReverse(t *testing.T) {
	for _, c := range []struct{ p, want api.Polygon }{
		{nil, nil},
		{api.Polygon{}, nil},
		{poly(1, 2), poly(1, 2)},
		{poly(1, 2, 3, 4), poly(3, 4, 1, 2)},
		{poly(0, 0, 10, 0, 10, 10), poly(10, 10, 10, 0, 0, 0)},
		{poly(1, 1, 1, 1, top+1, math.MinInt), poly(top+1, math.MinInt, 1, 1, 1, 1)},
	} {
		kept := slices.Clone(c.p)
		if p := Reverse(c.p); !slices.Equal(p, c.want) {
			t.Errorf("Reverse(%v) = %v", c.p, p)
		}
		if !slices.Equal(c.p, kept) {
			t.Errorf("Reverse changed %v to %v", kept, c.p)
		}
	}
	long := api.Polygon(parabola(5000))
	back := Reverse(long)
	for i := range long {
		if back[i] != long[len(long)-1-i] {
			t.Fatalf("Reverse of a long polygon at %d: %v", i, back[i])
		}
	}
	if !slices.Equal(Reverse(back), long) {
		t.Error("Reverse of Reverse is another polygon")
	}
}

func TestCanonical(t *testing.T) {
	for _, c := range []struct{ p, want api.Polygon }{
		{poly(10, 10, 10, 0, 0, 0, 0, 10), poly(0, 0, 10, 0, 10, 10, 0, 10)},
		{poly(0, 0, 10, 0, 10, 10, 0, 10), poly(0, 0, 10, 0, 10, 10, 0, 10)},
		{poly(0, 10, 0, 5, 0, 0, 5, 0, 10, 0), poly(0, 0, 5, 0, 10, 0, 0, 10, 0, 5)},
		{poly(2, 2, 0, 5, 9, 2, 0, -1), poly(0, -1, 9, 2, 0, 5, 2, 2)},
		{poly(top, top, -top, top, -top, -top, top, -top), poly(-top, -top, top, -top, top, top, -top, top)},
	} {
		for by := range c.p {
			for _, p := range []api.Polygon{turned(c.p, by), Reverse(turned(c.p, by))} {
				if q, e := Canonical(p); !slices.Equal(q, c.want) || e != api.OK {
					t.Errorf("Canonical(%v) = %v, %d, want %v", p, q, e, c.want)
				}
			}
		}
	}
}

func TestCanonicalOfDrawn(t *testing.T) {
	next := draw(7)
	for range 1500 {
		p := drawSimple(next, 3+next(6), 3+next(6))
		want, e := Canonical(p)
		if area, _ := Area2(want); e != api.OK || area <= 0 || want[0] != slices.MinFunc(p, compare) {
			t.Fatalf("Canonical(%v) = %v, %d", p, want, e)
		}
		first := slices.Index(p, want[0])
		if !slices.Equal(turned(p, first), want) && !slices.Equal(turned(Reverse(p), len(p)-1-first), want) {
			t.Fatalf("Canonical(%v) = %v has other corners", p, want)
		}
		for by := range p {
			for _, q := range []api.Polygon{turned(p, by), Reverse(turned(p, by))} {
				if got, e := Canonical(q); !slices.Equal(got, want) || e != api.OK {
					t.Fatalf("Canonical(%v) = %v, %d, but that of %v is %v", q, got, e, p, want)
				}
			}
		}
	}
}

func TestBounds(t *testing.T) {
	for _, c := range []struct {
		p           api.Polygon
		least, most api.Point
	}{
		{poly(0, 0, 10, 0, 10, 10, 0, 10), pt(0, 0), pt(10, 10)},
		{poly(0, 0, 10, 10, 10, 0, 0, 10), pt(0, 0), pt(10, 10)},
		{poly(3, -7, 1, 4, -2, 2), pt(-2, -7), pt(3, 4)},
		{poly(5, 5, 6, 6, 7, 7), pt(5, 5), pt(7, 7)},
		{poly(5, 1, 5, 3, 5, 2), pt(5, 1), pt(5, 3)},
		{poly(-top, 3, top, 3, 0, 4), pt(-top, 3), pt(top, 4)},
		{poly(3, -top, 3, top, 4, 0), pt(3, -top), pt(4, top)},
	} {
		for by := range c.p {
			if a, b, e := Bounds(turned(c.p, by)); a != c.least || b != c.most || e != api.OK {
				t.Errorf("Bounds(%v) = %v, %v, %d", turned(c.p, by), a, b, e)
			}
		}
	}
}

// TestMemory overwrites results and looks whether the arguments, or further results, have changed.
func TestMemory(t *testing.T) {
	for _, p := range []api.Polygon{poly(0, 0, 10, 0, 10, 10, 0, 10), poly(0, 10, 10, 10, 10, 0, 0, 0)} {
		kept := slices.Clone(p)
		for name, call := range map[string]func() api.Polygon{
			"Reverse":   func() api.Polygon { return Reverse(p) },
			"Canonical": func() api.Polygon { q, _ := Canonical(p); return q },
			"Hull":      func() api.Polygon { q, _ := Hull(p); return q },
		} {
			first := call()
			want := slices.Clone(first)
			clear(first[:cap(first)])
			if !slices.Equal(p, kept) {
				t.Errorf("%s shares memory with its argument", name)
			}
			if again := call(); !slices.Equal(again, want) {
				t.Errorf("%s keeps its result: %v, then %v", name, want, again)
			}
		}
		for name, call := range functions() {
			if call(p); !slices.Equal(p, kept) {
				t.Errorf("%s changed its argument to %v", name, p)
			}
		}
	}
}
