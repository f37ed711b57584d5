package sound

import (
	"slices"
	"strconv"

	"gangsaw/api"
	"gangsaw/model"
	"gangsaw/prism"
)

const top = api.MaxCoord

func vec(x, y, z int) api.Vec { return api.Vec{X: x, Y: y, Z: z} }

func bx(x, y, z, toX, toY, toZ int) api.Box {
	return api.Box{Min: vec(x, y, z), Max: vec(toX, toY, toZ)}
}

// cube returns the box from (from, from, from) to (to, to, to).
func cube(from, to int) api.Box { return bx(from, from, from, to, to, to) }

func bed(name string, z int) api.Bed { return api.Bed{Name: name, Z: z} }

func joint(name string, axis, at, lo, hi int) api.Joint {
	return api.Joint{Name: name, Axis: axis, At: at, Lo: lo, Hi: hi}
}

// flaw returns the flaw with these coordinates of its base: x and y of the first corner, of the second one, and so on.
func flaw(name string, lo, hi int, numbers ...int) api.Flaw {
	var base api.Polygon
	for i := 0; i < len(numbers); i += 2 {
		base = append(base, api.Point{X: numbers[i], Y: numbers[i+1]})
	}
	return api.Flaw{Name: name, Prism: api.Prism{Base: base, Lo: lo, Hi: hi}}
}

// says returns the evidence that a box has a state.
func says(b api.Box, state int) api.Evidence {
	return api.Evidence{Source: "someone", Box: b, State: state}
}

// example is the survey and the evidence of the examples of the chapter.
func example() (api.Survey, []api.Evidence) {
	s := api.Survey{
		Pit:   cube(0, 10),
		Beds:  []api.Bed{bed("b", 4)},
		Flaws: []api.Flaw{flaw("f", 0, 10, 8, 0, 10, 0, 10, 2)},
	}
	return s, []api.Evidence{says(bx(0, 0, 0, 10, 10, 8), api.Sound)}
}

// rich is a survey with several parts of each kind, the beds of which are not sorted by name.
func rich() api.Survey {
	return api.Survey{
		Pit:    cube(-10, 10),
		Beds:   []api.Bed{bed("z", -5), bed("c", 0), bed("m", 5)},
		Joints: []api.Joint{joint("d", api.AxisY, 5, -10, 10), joint("e", api.AxisX, -5, 0, 4), joint("g", api.AxisX, 5, -10, -4)},
		Flaws:  []api.Flaw{flaw("a", -10, -8, 0, 0, 4, 0, 0, 4), flaw("h", 6, 10, -10, -10, -4, -10, -4, -4, -10, -4)},
	}
}

func allSound() []api.Evidence { return []api.Evidence{says(cube(-10, 10), api.Sound)} }

func copyOf(s api.Survey) api.Survey {
	s.Beds, s.Joints, s.Flaws = slices.Clone(s.Beds), slices.Clone(s.Joints), slices.Clone(s.Flaws)
	for i, f := range s.Flaws {
		s.Flaws[i].Prism.Base = slices.Clone(f.Prism.Base)
	}
	return s
}

// draw returns numbers that look random and are the same in every run.
func draw(seed uint64) func(below int) int {
	return func(below int) int {
		seed = seed*6364136223846793005 + 1442695040888963407
		return int(seed>>33) % below
	}
}

func drawRange(next func(below int) int, a, b int) (int, int) {
	lo := a + next(b-a)
	return lo, lo + 1 + next(b-lo)
}

// drawBox returns a box within another one.
func drawBox(next func(below int) int, in api.Box) api.Box {
	x, toX := drawRange(next, in.Min.X, in.Max.X)
	y, toY := drawRange(next, in.Min.Y, in.Max.Y)
	z, toZ := drawRange(next, in.Min.Z, in.Max.Z)
	return bx(x, y, z, toX, toY, toZ)
}

// drawSurvey returns a valid survey in a small pit, with few flaws.
func drawSurvey(next func(below int) int) api.Survey {
	at := vec(next(7)-3, next(7)-3, next(7)-3)
	s := api.Survey{Pit: api.Box{Min: at, Max: vec(at.X+1+next(5), at.Y+1+next(5), at.Z+1+next(5))}}
	for z := s.Pit.Min.Z; z <= s.Pit.Max.Z; z++ {
		if next(3) == 0 {
			s.Beds = append(s.Beds, bed(string(rune('a'+next(26)))+"_bed"+strconv.Itoa(z-s.Pit.Min.Z), z))
		}
	}
	for i := range next(4) {
		b, axis := drawBox(next, s.Pit), next(2)
		s.Joints = append(s.Joints, joint(string(rune('c'+5*i))+"_joint", axis, []int{b.Max.X, b.Max.Y}[axis], b.Min.Z, b.Max.Z))
	}
	for i := range next(5) / 2 {
		b := drawBox(next, s.Pit)
		f := flaw(string(rune('d'+9*i))+"_flaw", b.Min.Z, b.Max.Z, b.Min.X, b.Min.Y, b.Max.X, b.Min.Y, b.Max.X, b.Max.Y, b.Min.X, b.Max.Y)
		if next(2) == 0 {
			f.Prism.Base = slices.Delete(f.Prism.Base, i, i+1)
		}
		s.Flaws = append(s.Flaws, f)
	}
	return s
}

// drawEvidence returns evidence that says of most of the pit that it is sound.
func drawEvidence(next func(below int) int, pit api.Box) []api.Evidence {
	var out []api.Evidence
	for range next(3) {
		out = append(out, says(drawBox(next, pit), api.Sound))
	}
	if next(4) > 0 {
		out = append(out, says(pit, api.Sound))
	}
	for range next(5) / 3 {
		out = append(out, says(drawBox(next, pit), api.Sound+next(2)))
	}
	return out
}

// cellsOf returns the cells of a box in their order.
func cellsOf(b api.Box) []api.Vec {
	var out []api.Vec
	for z := b.Min.Z; z < b.Max.Z; z++ {
		for y := b.Min.Y; y < b.Max.Y; y++ {
			for x := b.Min.X; x < b.Max.X; x++ {
				out = append(out, vec(x, y, z))
			}
		}
	}
	return out
}

// boxesIn returns all boxes inside a box.
func boxesIn(in api.Box) []api.Box {
	var out []api.Box
	for _, a := range cellsOf(in) {
		for _, b := range cellsOf(in) {
			if a.X <= b.X && a.Y <= b.Y && a.Z <= b.Z {
				out = append(out, bx(a.X, a.Y, a.Z, b.X+1, b.Y+1, b.Z+1))
			}
		}
	}
	return out
}

func stateOf(list []api.Evidence, cell api.Vec) int {
	state, _ := model.State(list, cell)
	return state
}

func hasCell(b api.Box, p api.Vec) bool {
	return b.Min.X <= p.X && p.X < b.Max.X && b.Min.Y <= p.Y && p.Y < b.Max.Y && b.Min.Z <= p.Z && p.Z < b.Max.Z
}

// passes reports whether a joint divides a cell of the box from the next one.
func passes(j api.Joint, b api.Box) bool {
	for _, cell := range cellsOf(b) {
		if j.Axis == api.AxisX {
			cell.X = j.At - 1
		} else {
			cell.Y = j.At - 1
		}
		other := cell
		if j.Axis == api.AxisX {
			other.X++
		} else {
			other.Y++
		}
		if j.Lo <= cell.Z && cell.Z < j.Hi && hasCell(b, cell) && hasCell(b, other) {
			return true
		}
	}
	return false
}

// modelWitnesses returns all witnesses in their order.
func modelWitnesses(s api.Survey, list []api.Evidence, b api.Box) []Witness {
	p := s.Pit
	if b.Min.X < p.Min.X || b.Min.Y < p.Min.Y || b.Min.Z < p.Min.Z || b.Max.X > p.Max.X || b.Max.Y > p.Max.Y || b.Max.Z > p.Max.Z {
		return []Witness{{Kind: Beyond}}
	}
	var out []Witness
	for _, cell := range cellsOf(b) {
		if state := stateOf(list, cell); state != api.Sound {
			out = append(out, Witness{Kind: Cell, Cell: cell, State: state})
		}
	}
	add := func(kind int, names []string) {
		slices.Sort(names)
		for _, name := range names {
			out = append(out, Witness{Kind: kind, Name: name})
		}
	}
	around, _ := prism.Of(b)
	var flaws, beds, joints []string
	for _, f := range s.Flaws {
		if meets, _ := prism.Meets(around, f.Prism); meets {
			flaws = append(flaws, f.Name)
		}
	}
	for _, x := range s.Beds {
		if x.Z-1 >= b.Min.Z && x.Z+1 <= b.Max.Z {
			beds = append(beds, x.Name)
		}
	}
	for _, j := range s.Joints {
		if passes(j, b) {
			joints = append(joints, j.Name)
		}
	}
	add(Flaw, flaws)
	add(Bed, beds)
	add(Joint, joints)
	return out
}

// modelFirst returns the first witness of a list, or the zero one.
func modelFirst(all []Witness) Witness {
	if len(all) == 0 {
		return Witness{}
	}
	return all[0]
}

// longer returns the part of a box with so many cells along an axis.
func longer(b api.Box, axis, cells int) api.Box {
	switch axis {
	case api.AxisX:
		b.Max.X = b.Min.X + cells
	case api.AxisY:
		b.Max.Y = b.Min.Y + cells
	case api.AxisZ:
		b.Max.Z = b.Min.Z + cells
	}
	return b
}

// modelLength tries all lengths of a box along an axis.
func modelLength(s api.Survey, list []api.Evidence, b api.Box, axis int) int {
	longest := 0
	for n := 1; n <= []int{b.Max.X - b.Min.X, b.Max.Y - b.Min.Y, b.Max.Z - b.Min.Z}[axis]; n++ {
		if len(modelWitnesses(s, list, longer(b, axis, n))) == 0 {
			longest = n
		}
	}
	return longest
}

// modelPieces puts each cell into the part that it has in common with the cell before it along each axis, unless there is a cut between them.
func modelPieces(s api.Survey, list []api.Evidence, b api.Box) []api.Box {
	var cuts [3]map[int]bool
	for axis := range cuts {
		cuts[axis] = map[int]bool{}
	}
	for _, x := range s.Beds {
		cuts[api.AxisZ][x.Z] = true
	}
	for _, j := range s.Joints {
		if passes(j, b) {
			cuts[j.Axis][j.At] = true
		}
	}
	least := func(from, n, axis int) int {
		for n > from && !cuts[axis][n] {
			n--
		}
		return n
	}
	var parts []api.Box
	at := map[api.Vec]int{}
	for _, p := range cellsOf(b) {
		corner := vec(least(b.Min.X, p.X, api.AxisX), least(b.Min.Y, p.Y, api.AxisY), least(b.Min.Z, p.Z, api.AxisZ))
		if p == corner {
			at[corner] = len(parts)
			parts = append(parts, api.Box{Min: corner})
		}
		// The last cell of a part is the greatest one along all axes.
		parts[at[corner]].Max = vec(p.X+1, p.Y+1, p.Z+1)
	}
	return slices.DeleteFunc(parts, func(part api.Box) bool { return len(modelWitnesses(s, list, part)) > 0 })
}
