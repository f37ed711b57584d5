package model

import (
	"cmp"
	"iter"
	"maps"
	"slices"

	"gangsaw/api"
	"gangsaw/box"
)

// extent is a range of cells along an axis: the numbers n with from <= n < to.
type extent struct{ from, to int }

// claim is what evidence says of the cells with these extents along the axes.
type claim struct {
	at    [3]extent
	state int
}

func extents(b api.Box) [3]extent {
	return [...]extent{{b.Min.X, b.Max.X}, {b.Min.Y, b.Max.Y}, {b.Min.Z, b.Max.Z}}
}

// parts yields the parts into which evidence divides a box, each with the state of all its cells, ordered by their least cells.
func parts(list []api.Evidence, b api.Box) iter.Seq2[api.Box, int] {
	return func(yield func(api.Box, int) bool) {
		whole := extents(b)
		claims := claimsAbout(list, b)
		var layer, row []claim
		for z := range steps(claims, api.AxisZ, whole) {
			layer = appendAt(layer[:0], claims, api.AxisZ, z.from)
			for y := range steps(layer, api.AxisY, whole) {
				row = appendAt(row[:0], layer, api.AxisY, y.from)
				for x, state := range runs(row, whole[api.AxisX]) {
					part := api.Box{Min: api.Vec{X: x.from, Y: y.from, Z: z.from}, Max: api.Vec{X: x.to, Y: y.to, Z: z.to}}
					if !yield(part, state) {
						return
					}
				}
			}
		}
	}
}

// claimsAbout returns what evidence says of the cells of a box, sorted by where the claims begin along x.
func claimsAbout(list []api.Evidence, b api.Box) []claim {
	var out []claim
	for _, v := range list {
		if both, e := box.Intersect(v.Box, b); e == api.OK {
			out = append(out, claim{extents(both), v.State})
		}
	}
	slices.SortFunc(out, func(a, b claim) int { return cmp.Compare(a.at[api.AxisX].from, b.at[api.AxisX].from) })
	return out
}

// steps yields the ranges between the coordinates at which the whole or a claim begins or ends along an axis.
func steps(claims []claim, axis int, whole [3]extent) iter.Seq[extent] {
	return func(yield func(extent) bool) {
		ends := map[int]bool{whole[axis].to: true}
		for _, c := range claims {
			ends[c.at[axis].from] = true
			ends[c.at[axis].to] = true
		}
		from := whole[axis].from
		for _, to := range slices.Sorted(maps.Keys(ends)) {
			if from < to && !yield(extent{from, to}) {
				return
			}
			from = to
		}
	}
}

// appendAt appends the claims about the cells with a coordinate.
func appendAt(out, claims []claim, axis, n int) []claim {
	for _, c := range claims {
		if c.at[axis].from <= n && n < c.at[axis].to {
			out = append(out, c)
		}
	}
	return out
}

// runs yields the ranges along x of a row of cells, each with the state of its cells. The claims are about the y and z of the row, and sorted by where they begin.
func runs(claims []claim, whole extent) iter.Seq2[extent, int] {
	return func(yield func(extent, int) bool) {
		// One sweep that knows how far each state reaches, instead of a look at all claims for each range, keeps long lists fast.
		reach := [...]int{api.Sound: whole.from, api.Flawed: whole.from}
		next := 0
		for at := whole; at.from < at.to; at = (extent{at.to, whole.to}) {
			for ; next < len(claims); next++ {
				state, x := claims[next].state, claims[next].at[api.AxisX]
				if x.from > max(at.from, reach[state]) {
					at.to = x.from
					break
				}
				reach[state] = max(reach[state], x.to)
			}
			state := api.Unseen
			for _, s := range [...]int{api.Sound, api.Flawed} {
				if at.from < reach[s] {
					state = join(state, s)
					at.to = min(at.to, reach[s])
				}
			}
			if !yield(at, state) {
				return
			}
		}
	}
}
