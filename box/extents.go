package box

import (
	"cmp"
	"iter"
	"slices"

	"gangsaw/api"
)

// extent is the range of a box along an axis: the numbers n with from <= n < to.
type extent struct{ from, to int }

func (s extent) has(n int) bool { return s.from <= n && n < s.to }

// extents are the ranges of a box along the axes x, y and z.
type extents [3]extent

func coordinates(p api.Vec) [3]int { return [3]int{p.X, p.Y, p.Z} }

func extentsOf(b api.Box) extents {
	return extents{{b.Min.X, b.Max.X}, {b.Min.Y, b.Max.Y}, {b.Min.Z, b.Max.Z}}
}

func (e extents) box() api.Box {
	x, y, z := e[api.AxisX], e[api.AxisY], e[api.AxisZ]
	return api.Box{Min: api.Vec{X: x.from, Y: y.from, Z: z.from}, Max: api.Vec{X: x.to, Y: y.to, Z: z.to}}
}

func boxes(list []extents) []api.Box {
	out := make([]api.Box, len(list))
	for i, e := range list {
		out[i] = e.box()
	}
	return out
}

func (e extents) empty() bool {
	for _, side := range e {
		if side.from >= side.to {
			return true
		}
	}
	return false
}

// volume is at most 2 * MaxCoord to the third power, which an int64 holds.
func (e extents) volume() int64 {
	product := int64(1)
	for _, side := range e {
		product *= int64(side.to - side.from)
	}
	return product
}

func common(a, b extents) extents {
	for axis := range a {
		a[axis] = extent{max(a[axis].from, b[axis].from), min(a[axis].to, b[axis].to)}
	}
	return a
}

// appendRest appends what is left of a without b.
func appendRest(out []extents, a, b extents) []extents {
	both := common(a, b)
	if both.empty() {
		return append(out, a)
	}
	part := a
	add := func(axis, from, to int) {
		if from < to {
			part[axis] = extent{from, to}
			out = append(out, part)
		}
	}
	for axis := api.AxisZ; axis >= api.AxisX; axis-- {
		add(axis, a[axis].from, both[axis].from)
		add(axis, both[axis].to, a[axis].to)
		part[axis] = both[axis]
	}
	return out
}

// ends returns, for each axis, the coordinates at which boxes begin or end, sorted.
func ends(list []extents) [3][]int {
	var at [3][]int
	for axis := range at {
		for _, e := range list {
			at[axis] = append(at[axis], e[axis].from, e[axis].to)
		}
		slices.Sort(at[axis])
		at[axis] = slices.Compact(at[axis])
	}
	return at
}

// reach returns the least box that contains all boxes with these sorted ends.
func reach(at [3][]int) extents {
	var out extents
	for axis := range out {
		out[axis] = extent{at[axis][0], at[axis][len(at[axis])-1]}
	}
	return out
}

// gaps yields the parts of the reach of these ends in which no box of the list lies, ordered by their least points. The ends are those of the list, and may be more.
func gaps(at [3][]int, list []extents) iter.Seq[extents] {
	byX := slices.Clone(list)
	slices.SortFunc(byX, func(a, b extents) int { return cmp.Compare(a[api.AxisX].from, b[api.AxisX].from) })
	// Whole runs in x, instead of one cell after the other, keep long lists fast.
	all := reach(at)[api.AxisX]
	return func(yield func(extents) bool) {
		var layer, row []extents
		for z := range steps(at[api.AxisZ]) {
			layer = appendThrough(layer[:0], byX, api.AxisZ, z.from)
			for y := range steps(at[api.AxisY]) {
				row = appendThrough(row[:0], layer, api.AxisY, y.from)
				for x := range holes(all, row) {
					if !yield(extents{x, y, z}) {
						return
					}
				}
			}
		}
	}
}

// steps yields the ranges between neighbours of a sorted list.
func steps(list []int) iter.Seq[extent] {
	return func(yield func(extent) bool) {
		for i := 1; i < len(list); i++ {
			if !yield(extent{list[i-1], list[i]}) {
				return
			}
		}
	}
}

// appendThrough appends the boxes in whose range along the axis a number lies.
func appendThrough(out, list []extents, axis, n int) []extents {
	for _, e := range list {
		if e[axis].has(n) {
			out = append(out, e)
		}
	}
	return out
}

// holes yields the parts of a range in which no box lies along x; the boxes are sorted by their beginnings.
func holes(all extent, byX []extents) iter.Seq[extent] {
	return func(yield func(extent) bool) {
		from := all.from
		for _, e := range byX {
			side := e[api.AxisX]
			if from < side.from && !yield(extent{from, side.from}) {
				return
			}
			from = max(from, side.to)
		}
		if from < all.to {
			yield(extent{from, all.to})
		}
	}
}
