package prism

import (
	"math/big"
	"slices"

	"gangsaw/api"
	"gangsaw/polygon"
)

const top = api.MaxCoord

func pt(x, y int) api.Point { return api.Point{X: x, Y: y} }

func vec(x, y, z int) api.Vec { return api.Vec{X: x, Y: y, Z: z} }

func bx(x, y, z, toX, toY, toZ int) api.Box {
	return api.Box{Min: vec(x, y, z), Max: vec(toX, toY, toZ)}
}

// cube returns the box from (from, from, from) to (to, to, to).
func cube(from, to int) api.Box { return bx(from, from, from, to, to, to) }

// poly returns the polygon with these coordinates: x and y of the first corner, of the second one, and so on.
func poly(numbers ...int) api.Polygon {
	var out api.Polygon
	for i := 0; i < len(numbers); i += 2 {
		out = append(out, pt(numbers[i], numbers[i+1]))
	}
	return out
}

// pr returns the prism with a range of z and a base with these coordinates.
func pr(lo, hi int, numbers ...int) api.Prism {
	return api.Prism{Base: poly(numbers...), Lo: lo, Hi: hi}
}

// turned returns the same polygon from another corner on.
func turned(p api.Polygon, by int) api.Polygon {
	return append(slices.Clone(p[by:]), p[:by]...)
}

// parabola returns a convex base with n corners.
func parabola(n int) api.Polygon {
	var out api.Polygon
	for i := range n {
		x := i - n/2
		out = append(out, pt(x, x*x))
	}
	return out
}

func same(p, q api.Prism) bool {
	return slices.Equal(p.Base, q.Base) && p.Lo == q.Lo && p.Hi == q.Hi
}

func isZero(p api.Prism) bool { return p.Base == nil && p.Lo == 0 && p.Hi == 0 }

// draw returns numbers that look random and are the same in every run.
func draw(seed uint64) func(below int) int {
	return func(below int) int {
		seed = seed*6364136223846793005 + 1442695040888963407
		return int(seed>>33) % below
	}
}

// drawRange returns two numbers from 0 to most, the less one first.
func drawRange(next func(below int) int, most int) (int, int) {
	lo := next(most)
	return lo, lo + 1 + next(most-lo)
}

// drawPrism returns the prism over the hull of some points with coordinates from 0 to most, from any of its corners on.
func drawPrism(next func(below int) int, count, most int) api.Prism {
	for {
		points := make([]api.Point, count)
		for i := range points {
			points[i] = pt(next(most+1), next(most+1))
		}
		if base, e := polygon.Hull(points); e == api.OK {
			lo, hi := drawRange(next, most)
			return api.Prism{Base: turned(base, next(len(base))), Lo: lo, Hi: hi}
		}
	}
}

func drawBox(next func(below int) int, most int) api.Box {
	x, toX := drawRange(next, most)
	y, toY := drawRange(next, most)
	z, toZ := drawRange(next, most)
	return bx(x, y, z, toX, toY, toZ)
}

// flats returns all boxes with z from 0 to 1, and x and y from 0 to most.
func flats(most int) []api.Box {
	var out []api.Box
	for x := range most {
		for toX := x + 1; toX <= most; toX++ {
			for y := range most {
				for toY := y + 1; toY <= most; toY++ {
					out = append(out, bx(x, y, 0, toX, toY, 1))
				}
			}
		}
	}
	return out
}

// triangles returns all valid prisms with three corners from 0 to most, and z from 0 to 1.
func triangles(most int) []api.Prism {
	var out []api.Prism
	for base := range bases(3, most) {
		if crossOf(base[0], base[1], base[2]) > 0 {
			out = append(out, api.Prism{Base: slices.Clone(base), Lo: 0, Hi: 1})
		}
	}
	return out
}

// bases yields all lists of n corners with coordinates from 0 to most, each in the same memory.
func bases(n, most int) func(yield func(api.Polygon) bool) {
	return func(yield func(api.Polygon) bool) {
		base := make(api.Polygon, n)
		var fill func(i int) bool
		fill = func(i int) bool {
			if i == n {
				return yield(base)
			}
			for x := range most + 1 {
				for y := range most + 1 {
					base[i] = pt(x, y)
					if !fill(i + 1) {
						return false
					}
				}
			}
			return true
		}
		fill(0)
	}
}

// crossOf is positive if c lies on the left of the line from a to b.
func crossOf(a, b, c api.Point) int {
	return (b.X-a.X)*(c.Y-a.Y) - (b.Y-a.Y)*(c.X-a.X)
}

func cornersOf(b api.Box) api.Polygon {
	return poly(b.Min.X, b.Min.Y, b.Max.X, b.Min.Y, b.Max.X, b.Max.Y, b.Min.X, b.Max.Y)
}

// ratio is a point with rational coordinates.
type ratio [2]*big.Rat

func ratios(p api.Polygon) []ratio {
	var out []ratio
	for _, c := range p {
		out = append(out, ratio{big.NewRat(int64(c.X), 1), big.NewRat(int64(c.Y), 1)})
	}
	return out
}

func minus(a, b *big.Rat) *big.Rat { return new(big.Rat).Sub(a, b) }

func times(a, b *big.Rat) *big.Rat { return new(big.Rat).Mul(a, b) }

func crossRatio(a, b, c ratio) *big.Rat {
	return minus(times(minus(b[0], a[0]), minus(c[1], a[1])), times(minus(b[1], a[1]), minus(c[0], a[0])))
}

// clip returns the part of a convex polygon on the left of the line from a to b.
func clip(p []ratio, a, b ratio) []ratio {
	var out []ratio
	for i, from := range p {
		to := p[(i+1)%len(p)]
		m, n := crossRatio(a, b, from), crossRatio(a, b, to)
		if m.Sign() >= 0 {
			out = append(out, from)
		}
		if m.Sign()*n.Sign() < 0 {
			share := new(big.Rat).Quo(m, minus(m, n))
			var at ratio
			for axis := range at {
				at[axis] = new(big.Rat).Add(from[axis], times(share, minus(to[axis], from[axis])))
			}
			out = append(out, at)
		}
	}
	return out
}

// commonArea reports whether two convex bases have a common part of positive area, by cutting it out.
func commonArea(p, q api.Polygon) bool {
	part, around := ratios(p), ratios(q)
	for i, a := range around {
		part = clip(part, a, around[(i+1)%len(around)])
	}
	sum := new(big.Rat)
	for i := 2; i < len(part); i++ {
		sum.Add(sum, crossRatio(part[0], part[i-1], part[i]))
	}
	return sum.Sign() > 0
}

func commonRange(lo, hi, otherLo, otherHi int) bool { return max(lo, otherLo) < min(hi, otherHi) }

func modelMeets(p, q api.Prism) bool {
	return commonRange(p.Lo, p.Hi, q.Lo, q.Hi) && commonArea(p.Base, q.Base)
}

func modelOverlaps(p api.Prism, b api.Box) bool {
	return commonRange(p.Lo, p.Hi, b.Min.Z, b.Max.Z) && commonArea(p.Base, cornersOf(b))
}

// modelCovers looks where the corners of the box lie in the polygon.
func modelCovers(p api.Prism, b api.Box) bool {
	for _, c := range cornersOf(b) {
		if side, _ := polygon.Side(p.Base, c); side < 0 {
			return false
		}
	}
	return p.Lo <= b.Min.Z && b.Max.Z <= p.Hi
}

// modelSeparator is the definition, written out.
func modelSeparator(p api.Prism, b api.Box) int {
	for i, from := range p.Base {
		to := p.Base[(i+1)%len(p.Base)]
		left := func(c api.Point) bool { return crossOf(from, to, c) > 0 }
		if !slices.ContainsFunc(cornersOf(b), left) {
			return i
		}
	}
	for i, within := range []func(c api.Point) bool{
		func(c api.Point) bool { return c.X > b.Min.X },
		func(c api.Point) bool { return c.X < b.Max.X },
		func(c api.Point) bool { return c.Y > b.Min.Y },
		func(c api.Point) bool { return c.Y < b.Max.Y },
	} {
		if !slices.ContainsFunc(p.Base, within) {
			return 1000 + i
		}
	}
	return -1
}
