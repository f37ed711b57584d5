package prism

import (
	"iter"
	"slices"

	"gangsaw/api"
	"gangsaw/box"
	"gangsaw/polygon"
)

func checkAll(list ...api.Prism) api.Errno {
	for _, p := range list {
		switch {
		case len(p.Base) > api.MaxCorners:
			return api.ErrTooMany
		case len(p.Base) < 3:
			return api.ErrInvalid
		case !inRange(p):
			return api.ErrRange
		case p.Lo >= p.Hi || !convex(p.Base):
			return api.ErrInvalid
		}
	}
	return api.OK
}

func checkBoth(p api.Prism, b api.Box) api.Errno {
	if e := checkAll(p); e != api.OK {
		return e
	}
	if box.Check(b) != api.OK {
		return api.ErrInvalid
	}
	return api.OK
}

func inRange(p api.Prism) bool {
	far := func(c api.Point) bool { return !ranged(c.X, c.Y) }
	return ranged(p.Lo, p.Hi) && !slices.ContainsFunc(p.Base, far)
}

func ranged(list ...int) bool {
	for _, n := range list {
		if n < -api.MaxCoord || n > api.MaxCoord {
			return false
		}
	}
	return true
}

// convex reports whether the way around a base turns to the left at every corner, and goes around once.
func convex(base api.Polygon) bool {
	rounds := 0
	before := edge{base[len(base)-1], base[0]}
	for _, after := range edges(base) {
		if before.side(after.to) != 1 {
			return false
		}
		// A way that turns to the left only begins to rise along y once in each round.
		if !before.rises() && after.rises() {
			rounds++
		}
		before = after
	}
	return rounds == 1
}

// edge is an edge of a base, which lies on its left.
type edge struct{ from, to api.Point }

// edges yields the edges of a base with their numbers.
func edges(base api.Polygon) iter.Seq2[int, edge] {
	return func(yield func(int, edge) bool) {
		for i, c := range base {
			if !yield(i, edge{c, base[(i+1)%len(base)]}) {
				return
			}
		}
	}
}

// side returns 1 for a point on the left of the line of an edge, -1 on the right, 0 on it.
func (e edge) side(c api.Point) int { return polygon.Orient(e.from, e.to, c) }

func (e edge) rises() bool { return e.from.Y < e.to.Y }

func (e edge) hasLeft(corners api.Polygon) bool {
	return slices.ContainsFunc(corners, func(c api.Point) bool { return e.side(c) > 0 })
}

func (e edge) hasRight(corners api.Polygon) bool {
	return slices.ContainsFunc(corners, func(c api.Point) bool { return e.side(c) < 0 })
}

// separatingEdge returns the first edge of a base with nothing of the other one on its left.
func separatingEdge(base, other api.Polygon) int {
	for i, line := range edges(base) {
		if !line.hasLeft(other) {
			return i
		}
	}
	return nothing
}

// meet rests on it that convex bases without a common part are separated by an edge of one of them.
func meet(p, q api.Prism) bool {
	return p.Lo < q.Hi && q.Lo < p.Hi &&
		separatingEdge(p.Base, q.Base) == nothing && separatingEdge(q.Base, p.Base) == nothing
}

func prismOf(b api.Box) api.Prism {
	return api.Prism{Base: rectangle(b), Lo: b.Min.Z, Hi: b.Max.Z}
}

func rectangle(b api.Box) api.Polygon {
	return api.Polygon{{X: b.Min.X, Y: b.Min.Y}, {X: b.Max.X, Y: b.Min.Y}, {X: b.Max.X, Y: b.Max.Y}, {X: b.Min.X, Y: b.Max.Y}}
}
