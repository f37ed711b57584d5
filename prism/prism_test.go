package prism

import (
	"math"
	"slices"
	"testing"

	"gangsaw/api"
	"gangsaw/box"
	"gangsaw/polygon"
)

var (
	// wedge is the prism of the chapter's examples.
	wedge = pr(0, 5, 0, 0, 10, 0, 0, 10)
	// whole is the greatest prism.
	whole = pr(-top, top, -top, -top, top, -top, top, top, -top, top)
)

// tooFar has coordinates that are not allowed.
var tooFar = []int{top + 1, -top - 1, top + 2, 1 << 31, 1 << 32, -1 << 32, math.MaxInt, math.MinInt, math.MinInt + 1}

func validPrisms() []api.Prism {
	return []api.Prism{
		wedge, whole,
		pr(0, 1, 0, 0, 1, 0, 0, 1),
		pr(-top, 1-top, top-1, top, top, top-1, top, top),
		pr(top-1, top, -top, -top, top, -top, -top, top),
		pr(-5, 5, 0, -3, 3, 0, 0, 3, -3, 0),
		pr(-5, 5, 1, 0, 2, 0, 3, 1, 3, 2, 2, 3, 1, 3, 0, 2, 0, 1),
		pr(0, 1, -top, -top, top-1, top-2, top, top), // as thin as it gets
		{Base: parabola(api.MaxCorners), Lo: 3, Hi: 4},
		{Base: parabola(api.MaxCorners - 1), Lo: 3, Hi: 4},
	}
}

type refusal struct {
	p    api.Prism
	want api.Errno
}

// notConvex has bases without another error than that they are not convex, or go around clockwise.
func notConvex() []api.Polygon {
	out := []api.Polygon{
		poly(0, 0, 4, 0, 8, 0),                               // all on one line
		poly(0, 0, 4, 0, 8, 0, 0, 8),                         // three corners on one line
		poly(0, 0, 8, 0, 0, 8, 0, 4),                         // the same at the end
		poly(4, 0, 8, 0, 0, 8, 0, 0),                         // the same at the beginning
		poly(0, 0, 8, 0, 3, 3, 0, 8),                         // a turn to the right
		poly(0, 0, 8, 0, 8, 8, 4, 7, 0, 8),                   // a dent
		poly(0, 0, 8, 8, 8, 0, 0, 8),                         // a bow tie
		poly(0, 0, 0, 0, 8, 0, 0, 8),                         // two equal corners
		poly(0, 0, 8, 0, 0, 8, 0, 0),                         // the first corner again
		poly(3, 3, 3, 3, 3, 3),                               // a point
		poly(0, 0, 8, 0, 0, 0, 8, 0),                         // there and back
		poly(0, 0, 8, 0, 8, 8, 8, 4),                         // back on its own side
		poly(0, 0, 8, 0, 0, 8, 0, 0, 8, 0, 0, 8),             // twice around a triangle
		poly(4, -8, 0, 10, -4, -8, 9, 3, -9, 3),              // a star, twice around
		poly(0, 0, 8, 0, 8, 8, 2, 2, 6, 2, 6, 6, 0, 6),       // twice around, with turns to the left only
		poly(0, 0, 9, 0, 9, 9, 1, 9, 1, 2, 8, 1, 9, 8, 0, 9), // the same with other directions
		append(parabola(32), parabola(32)...),                // twice around with many corners
		slices.Concat(wedge.Base, wedge.Base, wedge.Base),    // three times around
	}
	for _, p := range validPrisms() {
		out = append(out, polygon.Reverse(p.Base))
	}
	return out
}

// refusals returns prisms that are not valid, with their first error.
func refusals() []refusal {
	many := parabola(api.MaxCorners + 1)
	manyFar := append(poly(top+1, 0, top+1, 0), many[2:]...)
	out := []refusal{
		{api.Prism{Base: many, Lo: 0, Hi: 1}, api.ErrTooMany},
		{api.Prism{Base: manyFar, Lo: 5, Hi: top + 1}, api.ErrTooMany},
		{api.Prism{Base: make(api.Polygon, 100000)}, api.ErrTooMany},
		{api.Prism{}, api.ErrInvalid},
		{api.Prism{Base: api.Polygon{}, Lo: 0, Hi: 1}, api.ErrInvalid},
		{pr(0, 1, 3, 3), api.ErrInvalid},
		{pr(0, 1, 0, 0, 5, 5), api.ErrInvalid},
		{pr(0, top+1, 0, 0, 5, 5), api.ErrInvalid},
		{pr(0, 1, top+1, 0, 0, -top-1), api.ErrInvalid},
		{pr(5, 5, 0, 0, 10, 0, 0, 10), api.ErrInvalid},
		{pr(6, 5, 0, 0, 10, 0, 0, 10), api.ErrInvalid},
		{pr(top, -top, 0, 0, 10, 0, 0, 10), api.ErrInvalid},
		{pr(top, top, 0, 0, 10, 0, 0, 10), api.ErrInvalid},
		{pr(5, 5, 0, 0, 0, 10, 10, 0), api.ErrInvalid},
		{pr(math.MinInt, math.MaxInt, 0, 0, 10, 0, 0, 10), api.ErrRange},
		{pr(math.MaxInt, math.MinInt, 0, 0, 10, 0, 0, 10), api.ErrRange},
		{pr(0, 1, 0, 0, 0, top+1, 10, 0), api.ErrRange},
		{pr(0, 1, top+1, 0, top+1, 0, top+1, 0), api.ErrRange},
		{pr(1, 0, 0, 0, 10, 0, 0, -top-1), api.ErrRange},
	}
	for _, n := range tooFar {
		out = append(out, refusal{pr(n, 5, 0, 0, 10, 0, 0, 10), api.ErrRange}, refusal{pr(0, n, 0, 0, 10, 0, 0, 10), api.ErrRange})
		out = append(out, refusal{pr(0, n, 0, 0, 0, 10, 10, 0), api.ErrRange})
		for i := range wedge.Base {
			x, y := slices.Clone(wedge.Base), slices.Clone(wedge.Base)
			x[i].X, y[i].Y = n, n
			out = append(out, refusal{api.Prism{Base: x, Lo: 0, Hi: 5}, api.ErrRange}, refusal{api.Prism{Base: y, Lo: 9, Hi: 5}, api.ErrRange})
		}
	}
	for _, base := range notConvex() {
		out = append(out, refusal{api.Prism{Base: base, Lo: 0, Hi: 5}, api.ErrInvalid})
	}
	return out
}

// badBoxes has boxes that are not valid.
func badBoxes() []api.Box {
	out := []api.Box{{}, cube(1, 0), cube(5, 5), cube(0, top+1), cube(-top-1, 0), cube(top+1, top+1), cube(math.MinInt, math.MaxInt), cube(math.MaxInt, math.MinInt)}
	for which := range 6 {
		for _, n := range append([]int{5 - which/3*5, 6 - which/3*7}, tooFar...) {
			b := cube(0, 5)
			*[]*int{&b.Min.X, &b.Min.Y, &b.Min.Z, &b.Max.X, &b.Max.Y, &b.Max.Z}[which] = n
			out = append(out, b)
		}
	}
	return out
}

func TestCheck(t *testing.T) {
	for _, p := range validPrisms() {
		for by := range p.Base {
			if e := Check(api.Prism{Base: turned(p.Base, by), Lo: p.Lo, Hi: p.Hi}); e != api.OK {
				t.Errorf("Check(%v), turned by %d = %d", p, by, e)
			}
		}
	}
	for _, c := range refusals() {
		if e := Check(c.p); e != c.want {
			t.Errorf("Check(%v) = %d, want %d", c.p, e, c.want)
		}
	}
}

// checkAsPolygon compares whether a base is valid with whether it is a convex polygon: without common points of its sides, which is another definition of the same.
func checkAsPolygon(t *testing.T, base api.Polygon) bool {
	t.Helper()
	convex, e := polygon.Convex(base)
	want := api.ErrInvalid
	if convex && e == api.OK {
		want = api.OK
	}
	if e := Check(api.Prism{Base: base, Lo: 0, Hi: 1}); e != want {
		t.Fatalf("Check(%v) = %d, want %d", base, e, want)
	}
	return want == api.OK
}

// TestCheckOfAll has all small bases.
func TestCheckOfAll(t *testing.T) {
	for corners := 3; corners <= 6; corners++ {
		valid := 0
		for base := range bases(corners, 2) {
			if checkAsPolygon(t, base) {
				valid++
			}
		}
		if valid == 0 {
			t.Errorf("no base with %d corners", corners)
		}
	}
}

// TestCheckOfDrawn has larger bases: convex ones, with a corner moved, with two corners exchanged, and around twice.
func TestCheckOfDrawn(t *testing.T) {
	next := draw(1)
	valid := 0
	for range 5000 {
		base := drawPrism(next, 3+next(20), 5+next(40)).Base
		n := len(base)
		switch next(4) {
		case 0:
			base[next(n)] = pt(next(40), next(40))
		case 1:
			i, k := next(n), next(n)
			base[i], base[k] = base[k], base[i]
		case 2:
			base = slices.Concat(base, base)
		}
		if checkAsPolygon(t, base) {
			valid++
		}
	}
	if valid < 1000 || valid > 4000 {
		t.Errorf("%d valid bases", valid)
	}
}

// ofOne is a function of a prism; it reports whether the results are zero values.
type ofOne func(p api.Prism) (bool, api.Errno)

func functionsOfOne() map[string]ofOne {
	move := func(by api.Vec) ofOne {
		return func(p api.Prism) (bool, api.Errno) { q, e := Move(p, by); return isZero(q), e }
	}
	slice := func(lo, hi int) ofOne {
		return func(p api.Prism) (bool, api.Errno) { q, e := Slice(p, lo, hi); return isZero(q), e }
	}
	return map[string]ofOne{
		"Check":              func(p api.Prism) (bool, api.Errno) { return true, Check(p) },
		"Hull":               func(p api.Prism) (bool, api.Errno) { b, e := Hull(p); return b == api.Box{}, e },
		"Area2":              func(p api.Prism) (bool, api.Errno) { n, e := Area2(p); return n == 0, e },
		"Move":               move(vec(1, 2, 3)),
		"Move by nothing":    move(vec(0, 0, 0)),
		"Move too far":       move(vec(math.MaxInt, math.MinInt, top+1)),
		"Slice":              slice(math.MinInt, math.MaxInt),
		"Slice of nothing":   slice(3, 3),
		"Slice outside":      slice(math.MaxInt-1, math.MaxInt),
		"Slice of a reverse": slice(math.MaxInt, math.MinInt),
	}
}

func functionsOfBox() map[string]func(p api.Prism, b api.Box) (bool, api.Errno) {
	return map[string]func(p api.Prism, b api.Box) (bool, api.Errno){
		"Overlaps":  func(p api.Prism, b api.Box) (bool, api.Errno) { is, e := Overlaps(p, b); return !is, e },
		"Covers":    func(p api.Prism, b api.Box) (bool, api.Errno) { is, e := Covers(p, b); return !is, e },
		"Separator": func(p api.Prism, b api.Box) (bool, api.Errno) { n, e := Separator(p, b); return n == 0, e },
	}
}

func TestPrismsAreRefused(t *testing.T) {
	boxes := append(badBoxes(), cube(1, 2), cube(-top, top))
	for _, c := range refusals() {
		kept := slices.Clone(c.p.Base)
		for name, f := range functionsOfOne() {
			if zero, e := f(c.p); !zero || e != c.want {
				t.Errorf("%s(%v): zero %v, error %d, want %d", name, c.p, zero, e, c.want)
			}
		}
		for name, f := range functionsOfBox() {
			for _, b := range boxes {
				if zero, e := f(c.p, b); !zero || e != c.want {
					t.Errorf("%s(%v, %v): zero %v, error %d, want %d", name, c.p, b, zero, e, c.want)
				}
			}
		}
		for _, pair := range [][2]api.Prism{{c.p, wedge}, {wedge, c.p}, {c.p, c.p}} {
			if is, e := Meets(pair[0], pair[1]); is || e != c.want {
				t.Errorf("Meets(%v) = %v, %d, want %d", pair, is, e, c.want)
			}
		}
		if !slices.Equal(c.p.Base, kept) {
			t.Errorf("the base %v has changed to %v", kept, c.p.Base)
		}
	}
}

// TestFirstPrismCounts has two prisms with different errors: the first one decides.
func TestFirstPrismCounts(t *testing.T) {
	many := api.Prism{Base: parabola(api.MaxCorners + 1), Lo: 0, Hi: 1}
	few, far, flat := pr(0, 1, 0, 0, 1, 0), pr(0, top+1, 0, 0, 10, 0, 0, 10), pr(1, 1, 0, 0, 10, 0, 0, 10)
	bad := []refusal{{many, api.ErrTooMany}, {few, api.ErrInvalid}, {far, api.ErrRange}, {flat, api.ErrInvalid}}
	for _, a := range bad {
		for _, b := range bad {
			if is, e := Meets(a.p, b.p); is || e != a.want {
				t.Errorf("Meets(%v, %v) = %v, %d, want %d", a.p, b.p, is, e, a.want)
			}
		}
	}
}

func TestBoxesAreRefused(t *testing.T) {
	for _, b := range badBoxes() {
		for name, f := range functionsOfBox() {
			for _, p := range []api.Prism{wedge, whole, pr(500, 501, 500, 500, 501, 500, 500, 501)} {
				if zero, e := f(p, b); !zero || e != api.ErrInvalid {
					t.Errorf("%s(%v, %v): zero %v, error %d", name, p, b, zero, e)
				}
			}
		}
		if p, e := Of(b); !isZero(p) || e != api.ErrInvalid {
			t.Errorf("Of(%v) = %v, %d", b, p, e)
		}
	}
}

func TestHullAndArea(t *testing.T) {
	for _, c := range []struct {
		p    api.Prism
		hull api.Box
		area int64
	}{
		{wedge, bx(0, 0, 0, 10, 10, 5), 100},
		{whole, cube(-top, top), 8000000000000},
		{pr(-7, 4, 0, 0, 1, 0, 0, 1), bx(0, 0, -7, 1, 1, 4), 1},
		{pr(-5, 5, 0, -3, 4, 0, 0, 9, -2, 0), bx(-2, -3, -5, 4, 9, 5), 72},
		{pr(0, 1, -top, -top, top-1, top-2, top, top), bx(-top, -top, 0, top, top, 1), 2000000},
		{pr(3, 4, 1, 0, 2, 0, 3, 1, 3, 2, 2, 3, 1, 3, 0, 2, 0, 1), bx(0, 0, 3, 3, 3, 4), 14},
		{api.Prism{Base: parabola(5), Lo: 0, Hi: 1}, bx(-2, 0, 0, 2, 4, 1), 20},
	} {
		for by := range c.p.Base {
			p := api.Prism{Base: turned(c.p.Base, by), Lo: c.p.Lo, Hi: c.p.Hi}
			if b, e := Hull(p); b != c.hull || e != api.OK {
				t.Errorf("Hull(%v) = %v, %d, want %v", p, b, e, c.hull)
			}
			if n, e := Area2(p); n != c.area || e != api.OK {
				t.Errorf("Area2(%v) = %d, %d, want %d", p, n, e, c.area)
			}
		}
	}
}

// check compares all that is said of a prism and a box with the models, and with each other.
func check(t *testing.T, p api.Prism, b api.Box) (overlaps, covers bool, separator int) {
	t.Helper()
	kept := slices.Clone(p.Base)
	overlaps, e := Overlaps(p, b)
	if overlaps != modelOverlaps(p, b) || e != api.OK {
		t.Fatalf("Overlaps(%v, %v) = %v, %d", p, b, overlaps, e)
	}
	covers, e = Covers(p, b)
	if covers != modelCovers(p, b) || e != api.OK {
		t.Fatalf("Covers(%v, %v) = %v, %d", p, b, covers, e)
	}
	separator, e = Separator(p, b)
	if separator != modelSeparator(p, b) || e != api.OK {
		t.Fatalf("Separator(%v, %v) = %d, %d, want %d", p, b, separator, e, modelSeparator(p, b))
	}
	if overlaps != (separator == -1 && commonRange(p.Lo, p.Hi, b.Min.Z, b.Max.Z)) {
		t.Fatalf("of %v and %v, Overlaps is %v, but Separator %d", p, b, overlaps, separator)
	}
	if hull, _ := Hull(p); covers && !overlaps || overlaps && !box.Overlap(hull, b) {
		t.Fatalf("of %v and %v, Covers is %v, Overlaps %v, and the hull %v", p, b, covers, overlaps, hull)
	}
	if !slices.Equal(p.Base, kept) {
		t.Fatalf("the base %v has changed to %v", kept, p.Base)
	}
	return overlaps, covers, separator
}

func TestSmallTrianglesAndBoxes(t *testing.T) {
	for _, p := range triangles(3) {
		for _, b := range flats(3) {
			check(t, p, b)
		}
	}
}

func TestPrismsAndBoxes(t *testing.T) {
	next := draw(2)
	overlapping, covered := 0, 0
	separators := map[int]int{}
	for range 6000 {
		most := 3 + next(8)
		overlaps, covers, separator := check(t, drawPrism(next, 3+next(8), most), drawBox(next, most))
		if overlaps {
			overlapping++
		}
		if covers {
			covered++
		}
		separators[separator]++
	}
	if overlapping < 500 || covered < 100 {
		t.Errorf("%d overlap, %d are covered", overlapping, covered)
	}
	for _, i := range []int{-1, 0, 1, 2, 3, 1000, 1001, 1002, 1003} {
		if separators[i] < 10 {
			t.Errorf("%d times %d separates: %v", separators[i], i, separators)
		}
	}
}

func TestPrismsAndBoxesOfFew(t *testing.T) {
	rhombus := pr(0, 10, 10, 0, 20, 10, 10, 20, 0, 10)
	for _, c := range []struct {
		p                api.Prism
		b                api.Box
		overlaps, covers bool
		separator        int
	}{
		{wedge, bx(5, 5, 0, 9, 9, 5), false, false, 1}, // touches in a point of an edge
		{wedge, bx(4, 5, 0, 9, 9, 5), true, false, -1},
		{wedge, bx(1, 1, 1, 4, 4, 2), true, true, -1},
		{wedge, bx(1, 1, 1, 6, 6, 2), true, false, -1},
		{wedge, bx(0, 0, 0, 5, 5, 5), true, true, -1}, // touches from within
		{wedge, bx(0, 0, 0, 5, 6, 5), true, false, -1},
		{wedge, bx(-5, 3, 0, 0, 4, 5), false, false, 2},  // touches in a side
		{wedge, bx(-5, -5, 0, 0, 0, 5), false, false, 0}, // touches in a corner
		{wedge, bx(10, 0, 0, 12, 2, 5), false, false, 1}, // touches in a corner
		{wedge, bx(3, -2, 0, 4, 0, 5), false, false, 0},  // touches in a side
		{wedge, bx(3, -2, 0, 4, 1, 5), true, false, -1},
		{wedge, bx(-5, -5, -5, 50, 50, 50), true, false, -1},
		{wedge, bx(1, 1, 5, 4, 4, 9), false, false, -1},  // stands on it
		{wedge, bx(1, 1, -4, 4, 4, 0), false, false, -1}, // lies under it
		{wedge, bx(1, 1, 4, 4, 4, 9), true, false, -1},
		{wedge, bx(1, 1, -4, 4, 4, 1), true, false, -1},
		{wedge, bx(1, 1, 0, 4, 4, 6), true, false, -1},
		{wedge, bx(1, 1, -1, 4, 4, 5), true, false, -1},
		{wedge, bx(1, 1, 0, 4, 4, 5), true, true, -1},
		{rhombus, bx(20, 0, 0, 30, 20, 10), false, false, 1000}, // no edge separates
		{rhombus, bx(-9, 0, 0, 0, 20, 10), false, false, 1001},
		{rhombus, bx(0, 20, 0, 20, 29, 10), false, false, 1002},
		{rhombus, bx(0, -9, 0, 20, 0, 10), false, false, 1003},
		{rhombus, bx(19, 0, 0, 30, 20, 10), true, false, -1},
		{rhombus, bx(20, 0, 50, 30, 20, 60), false, false, 1000},
		{rhombus, bx(25, 9, 0, 30, 11, 10), false, false, 0},
		{rhombus, bx(25, 0, 0, 30, 30, 10), false, false, 1000},
		{rhombus, bx(15, 15, 0, 20, 20, 10), false, false, 1},
		{rhombus, bx(15, 0, 0, 20, 5, 10), false, false, 0},
		{rhombus, bx(0, 15, 0, 5, 20, 10), false, false, 2},
		{rhombus, bx(0, 0, 0, 5, 5, 10), false, false, 3},
		{rhombus, bx(5, 5, 0, 15, 15, 10), true, true, -1},
		{rhombus, bx(5, 5, 0, 15, 16, 10), true, false, -1},
		{whole, cube(-top, top), true, true, -1},
		{whole, cube(top-1, top), true, true, -1},
		{pr(0, 1, -top, -top, top-1, top-2, top, top), bx(top-1, top-1, 0, top, top, 1), true, false, -1},
		{pr(0, 1, -top, -top, top-1, top-2, top, top), bx(1, -1, 0, 2, 0, 1), false, false, 0},
		{pr(0, 1, -top, -top, top-1, top-2, top, top), bx(-1, 0, 0, 0, 1, 1), false, false, 2},
	} {
		overlaps, covers, separator := check(t, c.p, c.b)
		if overlaps != c.overlaps || covers != c.covers || separator != c.separator {
			t.Errorf("of %v and %v: Overlaps %v, Covers %v, Separator %d", c.p, c.b, overlaps, covers, separator)
		}
	}
}

func checkMeets(t *testing.T, p, q api.Prism) bool {
	t.Helper()
	is, e := Meets(p, q)
	back, f := Meets(q, p)
	if is != modelMeets(p, q) || is != back || e != api.OK || f != api.OK {
		t.Fatalf("Meets(%v, %v) = %v, %d, and the other way %v, %d", p, q, is, e, back, f)
	}
	return is
}

func TestMeetsOfSmallTriangles(t *testing.T) {
	list := triangles(2)
	for _, p := range list {
		for _, q := range list {
			checkMeets(t, p, q)
		}
	}
}

func TestMeets(t *testing.T) {
	next := draw(3)
	meeting := 0
	for range 3000 {
		most := 3 + next(10)
		p, q := drawPrism(next, 3+next(8), most), drawPrism(next, 3+next(8), most)
		by := vec(next(most)-most/2, next(most)-most/2, next(3)-1)
		q, e := Move(q, by)
		if e != api.OK {
			t.Fatalf("Move by %v: %d", by, e)
		}
		if checkMeets(t, p, q) {
			meeting++
		}
	}
	if meeting < 500 || meeting > 2500 {
		t.Errorf("%d meet", meeting)
	}
}

func TestMeetsOfFew(t *testing.T) {
	hexagon := pr(0, 5, 2, 0, 4, 0, 6, 3, 4, 6, 2, 6, 0, 3)
	for _, c := range []struct {
		p, q api.Prism
		want bool
	}{
		{wedge, wedge, true},
		{whole, wedge, true},
		{whole, whole, true},
		{wedge, pr(0, 5, 10, 0, 10, 10, 0, 10), false}, // touches in a side
		{wedge, pr(0, 5, 9, 0, 9, 9, 0, 9), true},
		{wedge, pr(0, 5, 5, 5, 6, 3, 9, 9), true},      // one corner on the edge, one within
		{wedge, pr(0, 5, 5, 5, 9, 5, 9, 9), false},     // touches in a corner
		{wedge, pr(0, 5, 10, 0, 20, -5, 20, 5), false}, // corner at corner
		{wedge, pr(0, 5, 2, 2, 4, 2, 2, 4), true},      // within
		{wedge, pr(0, 5, -50, -50, 99, -50, -50, 99), true},
		{wedge, pr(5, 9, 2, 2, 4, 2, 2, 4), false},  // stands on it
		{wedge, pr(-9, 0, 2, 2, 4, 2, 2, 4), false}, // lies under it
		{wedge, pr(4, 9, 2, 2, 4, 2, 2, 4), true},
		{wedge, pr(-9, 1, 2, 2, 4, 2, 2, 4), true},
		{wedge, pr(5, 9, 0, 0, 10, 0, 0, 10), false},
		{hexagon, pr(0, 5, 6, 3, 4, 0, 9, 0), false}, // along an edge, whose other side is slanted too
		{hexagon, pr(0, 5, 6, 0, 9, 3, 6, 6), false}, // a side at a corner
		{hexagon, pr(0, 5, 5, 0, 9, 3, 5, 6), true},
		{pr(0, 5, 0, 4, 9, 4, 9, 5, 0, 5), pr(0, 5, 4, 0, 5, 0, 5, 9, 4, 9), true}, // a cross: no corner lies in the other one
		{pr(0, 1, -top, -top, top-1, top-2, top, top), pr(0, 1, -top, -top, top, top, top-2, top-1), false},
		{pr(0, 1, -top, -top, top-1, top-2, top, top), pr(0, 1, 0, 0, top, top-2, top, top), true},
	} {
		if is := checkMeets(t, c.p, c.q); is != c.want {
			t.Errorf("Meets(%v, %v) = %v", c.p, c.q, is)
		}
	}
}

// TestPrismsOfBoxes compares prisms of boxes with the boxes themselves.
func TestPrismsOfBoxes(t *testing.T) {
	next := draw(4)
	for range 5000 {
		a, b := drawBox(next, 6), drawBox(next, 6)
		p, e := Of(a)
		q, f := Of(b)
		if e != api.OK || f != api.OK || Check(p) != api.OK {
			t.Fatalf("Of(%v) = %v, %d", a, p, e)
		}
		overlaps, _ := Overlaps(p, b)
		meets, _ := Meets(p, q)
		if covers, _ := Covers(p, b); overlaps != box.Overlap(a, b) || meets != overlaps || covers != box.Inside(b, a) {
			t.Fatalf("of %v and %v: Overlaps %v, Meets %v, Covers %v", a, b, overlaps, meets, covers)
		}
		if hull, e := Hull(p); hull != a || e != api.OK {
			t.Fatalf("Hull of the prism of %v = %v, %d", a, hull, e)
		}
		if area, _ := Area2(p); area != int64(2*(a.Max.X-a.Min.X)*(a.Max.Y-a.Min.Y)) {
			t.Fatalf("Area2 of the prism of %v = %d", a, area)
		}
	}
}

func TestOf(t *testing.T) {
	for _, c := range []struct {
		b    api.Box
		want api.Prism
	}{
		{bx(1, 2, 3, 40, 50, 60), pr(3, 60, 1, 2, 40, 2, 40, 50, 1, 50)},
		{bx(-3, -4, -5, -2, 0, 9), pr(-5, 9, -3, -4, -2, -4, -2, 0, -3, 0)},
		{cube(-top, top), whole},
		{cube(top-1, top), pr(top-1, top, top-1, top-1, top, top-1, top, top, top-1, top)},
	} {
		if p, e := Of(c.b); !same(p, c.want) || e != api.OK {
			t.Errorf("Of(%v) = %v, %d", c.b, p, e)
		}
	}
}

func TestMove(t *testing.T) {
	p := pr(-10, 20, 30, 40, 50, 45, 35, 60)
	for _, c := range []struct {
		p    api.Prism
		by   api.Vec
		want api.Prism
		e    api.Errno
	}{
		{p, vec(0, 0, 0), p, api.OK},
		{p, vec(1, -2, 3), pr(-7, 23, 31, 38, 51, 43, 36, 58), api.OK},
		{p, vec(top-50, top-60, top-20), pr(top-30, top, top-20, top-20, top, top-15, top-15, top), api.OK},
		{p, vec(top-49, 0, 0), api.Prism{}, api.ErrRange},
		{p, vec(0, top-59, 0), api.Prism{}, api.ErrRange},
		{p, vec(0, 0, top-19), api.Prism{}, api.ErrRange},
		{p, vec(-top, -top, 10-top), pr(-top, 30-top, 30-top, 40-top, 50-top, 45-top, 35-top, 60-top), api.OK},
		{p, vec(-top-1, 0, 0), api.Prism{}, api.ErrRange},
		{p, vec(0, -top-1, 0), api.Prism{}, api.ErrRange},
		{p, vec(0, 0, 9-top), api.Prism{}, api.ErrRange},
		{pr(-top, 1-top, -top, -top, 1-top, -top, -top, 1-top), vec(top, top, top), pr(0, 1, 0, 0, 1, 0, 0, 1), api.OK},
		{pr(-top, 1-top, -top, -top, 1-top, -top, -top, 1-top), vec(top+1, 0, 0), api.Prism{}, api.ErrRange},
		{pr(-top, 1-top, -top, -top, 1-top, -top, -top, 1-top), vec(0, top+1, 0), api.Prism{}, api.ErrRange},
		{pr(-top, 1-top, -top, -top, 1-top, -top, -top, 1-top), vec(0, 0, top+1), api.Prism{}, api.ErrRange},
		{pr(-top, 1-top, -top, -top, 1-top, -top, -top, 1-top), vec(-1, 0, 0), api.Prism{}, api.ErrRange},
		{pr(-top, 1-top, -top, -top, 1-top, -top, -top, 1-top), vec(0, -1, 0), api.Prism{}, api.ErrRange},
		{pr(-top, 1-top, -top, -top, 1-top, -top, -top, 1-top), vec(0, 0, -1), api.Prism{}, api.ErrRange},
		{whole, vec(0, 0, 0), whole, api.OK},
		{whole, vec(1, 0, 0), api.Prism{}, api.ErrRange},
		{whole, vec(0, -1, 0), api.Prism{}, api.ErrRange},
		{whole, vec(0, 0, 1), api.Prism{}, api.ErrRange},
		{wedge, vec(math.MaxInt, 0, 0), api.Prism{}, api.ErrRange},
		{wedge, vec(0, math.MinInt, 0), api.Prism{}, api.ErrRange},
		{wedge, vec(0, 0, math.MaxInt), api.Prism{}, api.ErrRange},
		{wedge, vec(math.MinInt, math.MinInt, math.MinInt), api.Prism{}, api.ErrRange},
	} {
		q, e := Move(c.p, c.by)
		if !same(q, c.want) || e != c.e {
			t.Errorf("Move(%v, %v) = %v, %d, want %v, %d", c.p, c.by, q, e, c.want, c.e)
		}
		if e != api.OK {
			continue
		}
		if back, e := Move(q, vec(-c.by.X, -c.by.Y, -c.by.Z)); !same(back, c.p) || e != api.OK {
			t.Errorf("moved there and back, %v is %v, %d", c.p, back, e)
		}
	}
}

// TestMoveOfBoth moves prisms and boxes together.
func TestMoveOfBoth(t *testing.T) {
	next := draw(5)
	for range 3000 {
		p, q, b := drawPrism(next, 3+next(6), 9), drawPrism(next, 3+next(6), 9), drawBox(next, 9)
		by := vec(next(2*top-20)-top, next(2*top-20)-top, next(2*top-20)-top)
		r, e := Move(p, by)
		s, f := Move(q, by)
		c, g := box.Move(b, by)
		if e != api.OK || f != api.OK || g != api.OK {
			t.Fatalf("moves by %v: %d, %d, %d", by, e, f, g)
		}
		before, _ := Meets(p, q)
		if after, e := Meets(r, s); after != before || e != api.OK {
			t.Fatalf("Meets(%v, %v) = %v, moved by %v %v", p, q, before, by, after)
		}
		before, _ = Covers(p, b)
		if after, e := Covers(r, c); after != before || e != api.OK {
			t.Fatalf("Covers(%v, %v) = %v, moved by %v %v", p, b, before, by, after)
		}
		first, _ := Separator(p, b)
		if again, e := Separator(r, c); again != first || e != api.OK {
			t.Fatalf("Separator(%v, %v) = %d, moved by %v %d", p, b, first, by, again)
		}
		before, _ = Overlaps(p, b)
		if after, e := Overlaps(r, c); after != before || e != api.OK {
			t.Fatalf("Overlaps(%v, %v) = %v, moved by %v %v", p, b, before, by, after)
		}
	}
}

func TestSlice(t *testing.T) {
	least, most := math.MinInt, math.MaxInt
	p := pr(-5, 10, 0, 0, 10, 0, 0, 10)
	for _, c := range []struct {
		lo, hi       int
		wantLo, want int
		e            api.Errno
	}{
		{-5, 10, -5, 10, api.OK},
		{-4, 9, -4, 9, api.OK},
		{-6, 11, -5, 10, api.OK},
		{-6, 3, -5, 3, api.OK},
		{3, 11, 3, 10, api.OK},
		{3, 4, 3, 4, api.OK},
		{9, 10, 9, 10, api.OK},
		{9, most, 9, 10, api.OK},
		{least, -4, -5, -4, api.OK},
		{least, most, -5, 10, api.OK},
		{top, top + 1, 0, 0, api.ErrNone},
		{10, 11, 0, 0, api.ErrNone},
		{10, most, 0, 0, api.ErrNone},
		{-6, -5, 0, 0, api.ErrNone},
		{least, -5, 0, 0, api.ErrNone},
		{least, least + 1, 0, 0, api.ErrNone},
		{most - 1, most, 0, 0, api.ErrNone},
		{3, 3, 0, 0, api.ErrInvalid},
		{4, 3, 0, 0, api.ErrInvalid},
		{10, -5, 0, 0, api.ErrInvalid},
		{50, 50, 0, 0, api.ErrInvalid},
		{most, least, 0, 0, api.ErrInvalid},
		{most, most, 0, 0, api.ErrInvalid},
		{least, least, 0, 0, api.ErrInvalid},
	} {
		q, e := Slice(p, c.lo, c.hi)
		if e != c.e {
			t.Errorf("Slice from %d to %d: error %d, want %d", c.lo, c.hi, e, c.e)
		}
		if e != api.OK && !isZero(q) || e == api.OK && !same(q, api.Prism{Base: p.Base, Lo: c.wantLo, Hi: c.want}) {
			t.Errorf("Slice from %d to %d = %v", c.lo, c.hi, q)
		}
	}
	if q, e := Slice(whole, -top, top); !same(q, whole) || e != api.OK {
		t.Errorf("Slice of the whole: %v, %d", q, e)
	}
}

// TestMemory overwrites results and looks whether the arguments, or further results, have changed.
func TestMemory(t *testing.T) {
	p := pr(0, 5, 0, 0, 10, 0, 10, 10, 0, 10)
	kept := slices.Clone(p.Base)
	for name, call := range map[string]func() (api.Prism, api.Errno){
		"Move":            func() (api.Prism, api.Errno) { return Move(p, vec(1, 2, 3)) },
		"Move by nothing": func() (api.Prism, api.Errno) { return Move(p, vec(0, 0, 0)) },
		"Slice":           func() (api.Prism, api.Errno) { return Slice(p, 1, 4) },
		"Slice of all":    func() (api.Prism, api.Errno) { return Slice(p, 0, 5) },
		"Of":              func() (api.Prism, api.Errno) { return Of(cube(0, 10)) },
	} {
		first, e := call()
		want := slices.Clone(first.Base)
		if e != api.OK || len(want) != 4 {
			t.Errorf("%s: %v, %d", name, first, e)
		}
		clear(first.Base[:cap(first.Base)])
		if !slices.Equal(p.Base, kept) {
			t.Errorf("%s shares memory with its argument", name)
		}
		if again, _ := call(); !slices.Equal(again.Base, want) {
			t.Errorf("%s keeps its result: %v, then %v", name, want, again.Base)
		}
	}
	functions := functionsOfOne()
	for name, f := range functionsOfBox() {
		functions[name] = func(p api.Prism) (bool, api.Errno) { return f(p, cube(1, 3)) }
	}
	functions["Meets"] = func(p api.Prism) (bool, api.Errno) { is, e := Meets(p, p); return is, e }
	for name, f := range functions {
		// Memory behind the base belongs to the caller, too.
		long := append(slices.Clone(kept), pt(7, 7), pt(8, 8))
		f(api.Prism{Base: long[:4], Lo: 0, Hi: 5})
		if !slices.Equal(long[:4], kept) || long[4] != pt(7, 7) || long[5] != pt(8, 8) {
			t.Errorf("%s changed its argument to %v", name, long)
		}
	}
}
