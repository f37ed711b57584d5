package survey

import (
	"slices"
	"strconv"

	"gangsaw/api"
	"gangsaw/polygon"
	"gangsaw/prism"
)

const top = api.MaxCoord

func vec(x, y, z int) api.Vec { return api.Vec{X: x, Y: y, Z: z} }

func bx(x, y, z, toX, toY, toZ int) api.Box {
	return api.Box{Min: vec(x, y, z), Max: vec(toX, toY, toZ)}
}

// cube returns the box from (from, from, from) to (to, to, to).
func cube(from, to int) api.Box { return bx(from, from, from, to, to, to) }

// poly returns the polygon with these coordinates: x and y of the first corner, of the second one, and so on.
func poly(numbers ...int) api.Polygon {
	var out api.Polygon
	for i := 0; i < len(numbers); i += 2 {
		out = append(out, api.Point{X: numbers[i], Y: numbers[i+1]})
	}
	return out
}

func bed(name string, z int) api.Bed { return api.Bed{Name: name, Z: z} }

func joint(name string, axis, at, lo, hi int) api.Joint {
	return api.Joint{Name: name, Axis: axis, At: at, Lo: lo, Hi: hi}
}

func flaw(name string, lo, hi int, numbers ...int) api.Flaw {
	return api.Flaw{Name: name, Prism: api.Prism{Base: poly(numbers...), Lo: lo, Hi: hi}}
}

// example is the survey of the examples of the chapter.
func example() api.Survey {
	return api.Survey{
		Pit:    cube(0, 100),
		Beds:   []api.Bed{bed("b", 50)},
		Joints: []api.Joint{joint("j", api.AxisX, 30, 0, 60)},
	}
}

// rich is a survey with several parts of each kind, some of which lie at the ends of the pit.
func rich() api.Survey {
	return api.Survey{
		Pit:    bx(-10, -20, -30, 90, 80, 70),
		Open:   [4]bool{true, false, false, true},
		Beds:   []api.Bed{bed("low", -30), bed("middle", 0), bed("high", 70)},
		Joints: []api.Joint{joint("ja", api.AxisX, -10, -30, 70), joint("jb", api.AxisY, 80, 0, 10), joint("jc", api.AxisX, 20, 5, 40)},
		Flaws:  []api.Flaw{flaw("fa", -30, 70, -10, -20, 90, -20, 90, 80, -10, 80), flaw("fb", 0, 10, 0, 0, 10, 0, 0, 10), flaw("fc", 5, 9, 30, 30, 40, 30, 30, 40)},
	}
}

func numbered(letter string, i int) string { return letter + strconv.Itoa(1000+i) }

// manyBeds returns so many beds, from z 0 on.
func manyBeds(count int) []api.Bed {
	var out []api.Bed
	for i := range count {
		out = append(out, bed(numbered("b", i), i))
	}
	return out
}

func manyJoints(count int) []api.Joint {
	var out []api.Joint
	for i := range count {
		out = append(out, joint(numbered("j", i), i%2, i/2, 0, 1+i))
	}
	return out
}

func manyFlaws(count int) []api.Flaw {
	var out []api.Flaw
	for i := range count {
		out = append(out, flaw(numbered("f", i), i, i+2, 0, 0, 1+i, 0, 0, 1))
	}
	return out
}

// parabola returns a convex base with n corners and x from 0 to n - 1.
func parabola(n int) api.Polygon {
	var out api.Polygon
	for x := range n {
		out = append(out, api.Point{X: x, Y: x * x})
	}
	return out
}

func copyOf(s api.Survey) api.Survey {
	s.Beds, s.Joints, s.Flaws = slices.Clone(s.Beds), slices.Clone(s.Joints), slices.Clone(s.Flaws)
	for i, f := range s.Flaws {
		s.Flaws[i].Prism.Base = slices.Clone(f.Prism.Base)
	}
	return s
}

// same compares all parts of two surveys, one after the other.
func same(a, b api.Survey) bool {
	if a.Pit != b.Pit || a.Open != b.Open || len(a.Beds) != len(b.Beds) || len(a.Joints) != len(b.Joints) || len(a.Flaws) != len(b.Flaws) {
		return false
	}
	for i, x := range a.Beds {
		if x != b.Beds[i] {
			return false
		}
	}
	for i, x := range a.Joints {
		if x != b.Joints[i] {
			return false
		}
	}
	for i, x := range a.Flaws {
		p, q := x.Prism, b.Flaws[i].Prism
		if x.Name != b.Flaws[i].Name || p.Lo != q.Lo || p.Hi != q.Hi || len(p.Base) != len(q.Base) {
			return false
		}
		for k, c := range p.Base {
			if c != q.Base[k] {
				return false
			}
		}
	}
	return true
}

// draw returns numbers that look random and are the same in every run.
func draw(seed uint64) func(below int) int {
	return func(below int) int {
		seed = seed*6364136223846793005 + 1442695040888963407
		return int(seed>>33) % below
	}
}

// drawRange returns two numbers from a to b, the less one first.
func drawRange(next func(below int) int, a, b int) (int, int) {
	lo := a + next(b-a)
	return lo, lo + 1 + next(b-lo)
}

func drawBox(next func(below int) int, in api.Box) api.Box {
	x, toX := drawRange(next, in.Min.X, in.Max.X)
	y, toY := drawRange(next, in.Min.Y, in.Max.Y)
	z, toZ := drawRange(next, in.Min.Z, in.Max.Z)
	return bx(x, y, z, toX, toY, toZ)
}

// drawBase returns a convex base within a box, from any of its corners on.
func drawBase(next func(below int) int, in api.Box) api.Polygon {
	for {
		points := make([]api.Point, 3+next(5))
		for i := range points {
			points[i] = api.Point{X: in.Min.X + next(in.Max.X-in.Min.X+1), Y: in.Min.Y + next(in.Max.Y-in.Min.Y+1)}
		}
		if base, e := polygon.Hull(points); e == api.OK {
			by := next(len(base))
			return append(slices.Clone(base[by:]), base[:by]...)
		}
	}
}

// drawSurvey returns a valid survey in a small pit, whose parts often touch each other and the pit.
func drawSurvey(next func(below int) int) api.Survey {
	at := vec(next(9)-4, next(9)-4, next(9)-4)
	s := api.Survey{Pit: api.Box{Min: at, Max: vec(at.X+1+next(6), at.Y+1+next(6), at.Z+1+next(7))}}
	for side := range s.Open {
		s.Open[side] = next(2) == 0
	}
	for z := s.Pit.Min.Z; z <= s.Pit.Max.Z; z++ {
		if next(3) == 0 {
			s.Beds = append(s.Beds, bed(string(rune('a'+next(26)))+"_bed"+strconv.Itoa(z-s.Pit.Min.Z), z))
		}
	}
	for i := range next(8) {
		axis := next(2)
		from, to := s.Pit.Min.X, s.Pit.Max.X
		if axis == api.AxisY {
			from, to = s.Pit.Min.Y, s.Pit.Max.Y
		}
		lo, hi := drawRange(next, s.Pit.Min.Z, s.Pit.Max.Z)
		s.Joints = append(s.Joints, joint(string(rune('c'+2*i))+"_joint", axis, from+next(to-from+1), lo, hi))
	}
	for i := range next(5) {
		lo, hi := drawRange(next, s.Pit.Min.Z, s.Pit.Max.Z)
		s.Flaws = append(s.Flaws, api.Flaw{Name: string(rune('d'+3*i)) + "_flaw", Prism: api.Prism{Base: drawBase(next, s.Pit), Lo: lo, Hi: hi}})
	}
	return s
}

// hasCell reports whether a box has the unit cell whose least corner is a point.
func hasCell(b api.Box, p api.Vec) bool {
	return b.Min.X <= p.X && p.X+1 <= b.Max.X && b.Min.Y <= p.Y && p.Y+1 <= b.Max.Y && b.Min.Z <= p.Z && p.Z+1 <= b.Max.Z
}

// modelThrough looks for two cells of the box on both sides of each bed and joint.
func modelThrough(s api.Survey, b api.Box) []string {
	var out []string
	for _, x := range s.Beds {
		if hasCell(b, vec(b.Min.X, b.Min.Y, x.Z-1)) && hasCell(b, vec(b.Min.X, b.Min.Y, x.Z)) {
			out = append(out, x.Name)
		}
	}
	for _, j := range s.Joints {
		for z := j.Lo; z < j.Hi; z++ {
			before, behind := vec(j.At-1, b.Min.Y, z), vec(j.At, b.Min.Y, z)
			if j.Axis == api.AxisY {
				before, behind = vec(b.Min.X, j.At-1, z), vec(b.Min.X, j.At, z)
			}
			if hasCell(b, before) && hasCell(b, behind) {
				out = append(out, j.Name)
				break
			}
		}
	}
	slices.Sort(out)
	return out
}

func modelFlaws(s api.Survey, b api.Box) []string {
	around, _ := prism.Of(b)
	var out []string
	for _, f := range s.Flaws {
		if meets, _ := prism.Meets(around, f.Prism); meets {
			out = append(out, f.Name)
		}
	}
	return out
}

// beside returns the cells that touch the corner cells of a side of a box from outside, at a z.
func beside(b api.Box, side, z int) api.Vec {
	switch side {
	case api.PlusX:
		return vec(b.Max.X, b.Min.Y, z)
	case api.MinusX:
		return vec(b.Min.X-1, b.Min.Y, z)
	case api.PlusY:
		return vec(b.Min.X, b.Max.Y, z)
	}
	return vec(b.Min.X, b.Min.Y-1, z)
}

// modelOpen holds if the side is open, and the cells outside the box are outside the pit.
func modelOpen(s api.Survey, b api.Box, side int) bool {
	return s.Open[side] && !hasCell(s.Pit, beside(b, side, b.Min.Z))
}

// modelJointed looks at each z of the side.
func modelJointed(s api.Survey, b api.Box, side int) []api.Interval {
	jointed := func(z int) bool {
		return slices.ContainsFunc(s.Joints, func(j api.Joint) bool {
			at := []int{b.Max.X, b.Min.X, b.Max.Y, b.Min.Y}[side]
			return (j.Axis == api.AxisX) == (side < 2) && j.At == at && j.Lo <= z && z <= j.Hi-1
		})
	}
	var out []api.Interval
	for z := b.Min.Z; z < b.Max.Z; z++ {
		switch last := len(out) - 1; {
		case !jointed(z):
		case last >= 0 && out[last].Hi == z-1:
			out[last].Hi = z
		default:
			out = append(out, api.Interval{Lo: z, Hi: z})
		}
	}
	return out
}
