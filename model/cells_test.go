package model

import (
	"slices"

	"gangsaw/api"
)

const top = api.MaxCoord

func vec(x, y, z int) api.Vec { return api.Vec{X: x, Y: y, Z: z} }

func bx(x, y, z, toX, toY, toZ int) api.Box {
	return api.Box{Min: vec(x, y, z), Max: vec(toX, toY, toZ)}
}

// cube returns the box from (from, from, from) to (to, to, to).
func cube(from, to int) api.Box { return bx(from, from, from, to, to, to) }

func sound(source string, b api.Box) api.Evidence {
	return api.Evidence{Source: source, Box: b, State: api.Sound}
}

func flawed(source string, b api.Box) api.Evidence {
	return api.Evidence{Source: source, Box: b, State: api.Flawed}
}

// example is the evidence of the examples of the chapter.
func example() []api.Evidence {
	return []api.Evidence{sound("a", cube(0, 10)), flawed("b", cube(5, 15))}
}

// draw returns numbers that look random and are the same in every run.
func draw(seed uint64) func(below int) int {
	return func(below int) int {
		seed = seed*6364136223846793005 + 1442695040888963407
		return int(seed>>33) % below
	}
}

// drawBox returns a box within another one.
func drawBox(next func(below int) int, in api.Box) api.Box {
	side := func(a, b int) (int, int) {
		from := a + next(b-a)
		return from, from + 1 + next(b-from)
	}
	x, toX := side(in.Min.X, in.Max.X)
	y, toY := side(in.Min.Y, in.Max.Y)
	z, toZ := side(in.Min.Z, in.Max.Z)
	return bx(x, y, z, toX, toY, toZ)
}

// drawList returns evidence from few sources about parts of a box.
func drawList(next func(below int) int, count int, in api.Box) []api.Evidence {
	var out []api.Evidence
	for range count {
		source := []string{"a", "B 2", "boring", "~"}[next(4)]
		out = append(out, api.Evidence{Source: source, Box: drawBox(next, in), State: api.Sound + next(2)})
	}
	return out
}

// allBoxes returns all boxes inside a box.
func allBoxes(in api.Box) []api.Box {
	var out []api.Box
	for _, a := range cellsOf(in) {
		for _, b := range cellsOf(in) {
			if a.X <= b.X && a.Y <= b.Y && a.Z <= b.Z {
				out = append(out, bx(a.X, a.Y, a.Z, b.X+1, b.Y+1, b.Z+1))
			}
		}
	}
	return out
}

// cellsOf returns the cells of a box in their order.
func cellsOf(b api.Box) []api.Vec {
	var out []api.Vec
	for z := b.Min.Z; z < b.Max.Z; z++ {
		for y := b.Min.Y; y < b.Max.Y; y++ {
			for x := b.Min.X; x < b.Max.X; x++ {
				out = append(out, vec(x, y, z))
			}
		}
	}
	return out
}

// hasCell reports whether a box has the unit cell whose least corner is a point.
func hasCell(b api.Box, p api.Vec) bool {
	return b.Min.X <= p.X && p.X+1 <= b.Max.X && b.Min.Y <= p.Y && p.Y+1 <= b.Max.Y && b.Min.Z <= p.Z && p.Z+1 <= b.Max.Z
}

// modelJoin is the definition of the join, case by case.
func modelJoin(a, b int) int {
	switch {
	case a == api.Unseen:
		return b
	case b == api.Unseen, a == b:
		return a
	}
	return api.Clash
}

func modelState(list []api.Evidence, cell api.Vec) int {
	state := api.Unseen
	for _, v := range list {
		if hasCell(v.Box, cell) {
			state = modelJoin(state, v.State)
		}
	}
	return state
}

func modelSources(list []api.Evidence, cell api.Vec) []string {
	var out []string
	for _, v := range list {
		if hasCell(v.Box, cell) && !slices.Contains(out, v.Source) {
			out = append(out, v.Source)
		}
	}
	slices.Sort(out)
	return out
}

// modelClashes looks for a cell that lies in both boxes.
func modelClashes(list []api.Evidence) [][2]int {
	var out [][2]int
	for i, v := range list {
		for k, w := range list {
			inBoth := func(p api.Vec) bool { return hasCell(w.Box, p) }
			if i < k && v.State+w.State == api.Sound+api.Flawed && slices.ContainsFunc(cellsOf(v.Box), inBoth) {
				out = append(out, [2]int{i, k})
			}
		}
	}
	return out
}

// modelUseless compares the states of all cells in which they can differ.
func modelUseless(list []api.Evidence, index int) bool {
	var others []api.Evidence
	for i, v := range list {
		if i != index {
			others = append(others, v)
		}
	}
	differs := func(p api.Vec) bool { return modelState(list, p) != modelState(others, p) }
	return !slices.ContainsFunc(cellsOf(list[index].Box), differs)
}
