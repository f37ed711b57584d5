package sound

import (
	"cmp"
	"slices"

	"gangsaw/api"
	"gangsaw/box"
	"gangsaw/model"
	"gangsaw/survey"
)

func check(s api.Survey, list []api.Evidence, b api.Box) api.Errno {
	if e := survey.Check(s); e != api.OK {
		return e
	}
	if e := model.Check(list); e != api.OK {
		return e
	}
	return box.Check(b)
}

// first returns the first witness, or the zero one. What it is given has been checked.
func first(s api.Survey, list []api.Evidence, b api.Box) Witness {
	if !box.Inside(b, s.Pit) {
		return Witness{Kind: Beyond}
	}
	if w := firstCell(list, b); w.Kind == Cell {
		return w
	}
	for _, kind := range []int{Flaw, Bed, Joint} {
		if all := names(s, b, kind); len(all) > 0 {
			return Witness{Kind: kind, Name: all[0]}
		}
	}
	return Witness{}
}

// firstCell returns the witness with the least cell of a box, or the zero one.
func firstCell(list []api.Evidence, b api.Box) Witness {
	var out Witness
	for _, state := range []int{api.Unseen, api.Flawed, api.Clash} {
		cell, e := model.First(list, b, state)
		if e == api.OK && (out.Kind == None || before(cell, out.Cell)) {
			out = Witness{Kind: Cell, Cell: cell, State: state}
		}
	}
	return out
}

func before(a, b api.Vec) bool {
	return cmp.Or(cmp.Compare(a.Z, b.Z), cmp.Compare(a.Y, b.Y), cmp.Compare(a.X, b.X)) < 0
}

// names returns the names of the flaws, beds or joints, as the kind of their witnesses says, that make a box inside the pit unsound, sorted.
func names(s api.Survey, b api.Box, kind int) []string {
	var out []string
	switch kind {
	case Flaw:
		out, _ = survey.Flaws(s, b)
	case Bed:
		out, _ = survey.Through(api.Survey{Pit: s.Pit, Beds: s.Beds}, b)
	case Joint:
		out, _ = survey.Through(api.Survey{Pit: s.Pit, Joints: s.Joints}, b)
	}
	return out
}

// cuts returns for each axis where the parts of a box begin and end, sorted.
func cuts(s api.Survey, b api.Box) [3][]int {
	var at [3][]int
	beds, joints := names(s, b, Bed), names(s, b, Joint)
	for _, bed := range s.Beds {
		if slices.Contains(beds, bed.Name) {
			at[api.AxisZ] = append(at[api.AxisZ], bed.Z)
		}
	}
	for _, j := range s.Joints {
		if slices.Contains(joints, j.Name) {
			at[j.Axis] = append(at[j.Axis], j.At)
		}
	}
	for axis := range at {
		from, to := ends(b, axis)
		at[axis] = append(at[axis], from, to)
		slices.Sort(at[axis])
		at[axis] = slices.Compact(at[axis])
	}
	return at
}

// near returns what decides about parts of a box that no bed or joint passes through: a survey of the flaws that overlap the box, and evidence about its cells without what is said already. So little keeps very many parts fast.
func near(s api.Survey, list []api.Evidence, b api.Box) (api.Survey, []api.Evidence) {
	over := names(s, b, Flaw)
	far := func(f api.Flaw) bool { return !slices.Contains(over, f.Name) }
	var about []api.Evidence
	for _, v := range list {
		part, e := box.Intersect(v.Box, b)
		says := func(w api.Evidence) bool { return w.State == v.State && box.Inside(part, w.Box) }
		if e == api.OK && !slices.ContainsFunc(about, says) {
			about = append(about, api.Evidence{Source: v.Source, Box: part, State: v.State})
		}
	}
	return api.Survey{Pit: s.Pit, Flaws: slices.DeleteFunc(slices.Clone(s.Flaws), far)}, about
}

// ends returns where a box begins and ends along an axis.
func ends(b api.Box, axis int) (int, int) {
	return [...]int{b.Min.X, b.Min.Y, b.Min.Z}[axis], [...]int{b.Max.X, b.Max.Y, b.Max.Z}[axis]
}

// cut returns the part of a box from a coordinate along an axis to another one.
func cut(b api.Box, axis, from, to int) api.Box {
	*[...]*int{&b.Min.X, &b.Min.Y, &b.Min.Z}[axis] = from
	*[...]*int{&b.Max.X, &b.Max.Y, &b.Max.Z}[axis] = to
	return b
}
