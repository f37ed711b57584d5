package survey

import (
	"cmp"
	"slices"

	"gangsaw/api"
	"gangsaw/box"
	"gangsaw/lexer"
	"gangsaw/polygon"
	"gangsaw/prism"
)

// checkBox returns the first error of a survey, of directions of sides, and of a box that must lie inside the pit.
func checkBox(s api.Survey, b api.Box, directions ...int) api.Errno {
	if e := Check(s); e != api.OK {
		return e
	}
	switch {
	case slices.ContainsFunc(directions, func(d int) bool { return d < api.PlusX || d > api.MinusY }):
		return api.ErrRange
	case b.Min.X >= b.Max.X || b.Min.Y >= b.Max.Y || b.Min.Z >= b.Max.Z:
		return api.ErrInvalid
	case !box.Inside(b, s.Pit):
		return api.ErrOutside
	}
	return api.OK
}

// names returns the names of all parts of a survey: of the beds, of the joints and of the flaws.
func names(s api.Survey) []string {
	var out []string
	for _, b := range s.Beds {
		out = append(out, b.Name)
	}
	for _, j := range s.Joints {
		out = append(out, j.Name)
	}
	for _, f := range s.Flaws {
		out = append(out, f.Name)
	}
	return out
}

func named(s api.Survey) bool {
	return !slices.ContainsFunc(names(s), func(name string) bool { return !lexer.Name(name) })
}

// formed reports whether the joints have an axis, and the joints and flaws a z.
func formed(s api.Survey) bool {
	wrongJoint := func(j api.Joint) bool {
		return j.Axis != api.AxisX && j.Axis != api.AxisY || j.Lo >= j.Hi
	}
	wrongFlaw := func(f api.Flaw) bool { return f.Prism.Lo >= f.Prism.Hi }
	return !slices.ContainsFunc(s.Joints, wrongJoint) && !slices.ContainsFunc(s.Flaws, wrongFlaw)
}

func checkBases(flaws []api.Flaw) api.Errno {
	for _, f := range flaws {
		if e := polygon.Check(f.Prism.Base); e != api.OK {
			return e
		}
	}
	// A valid polygon is the base of a prism exactly if it is convex. That is asked of package prism, since a survey is checked very often, and package polygon compares each side with all others.
	notConvex := func(f api.Flaw) bool {
		return prism.Check(api.Prism{Base: f.Prism.Base, Lo: 0, Hi: 1}) != api.OK
	}
	if slices.ContainsFunc(flaws, notConvex) {
		return api.ErrConflict
	}
	return api.OK
}

// inPit expects that the joints have an axis, and the joints and flaws a z.
func inPit(s api.Survey) bool {
	pit := s.Pit
	deep := func(lo, hi int) bool { return pit.Min.Z <= lo && hi <= pit.Max.Z }
	wide := func(at, axis int) bool {
		lo, hi := ends(pit, axis)
		return lo <= at && at <= hi
	}
	bedOut := func(b api.Bed) bool { return !deep(b.Z, b.Z) }
	jointOut := func(j api.Joint) bool { return !wide(j.At, j.Axis) || !deep(j.Lo, j.Hi) }
	cornerOut := func(c api.Point) bool { return !wide(c.X, api.AxisX) || !wide(c.Y, api.AxisY) }
	flawOut := func(f api.Flaw) bool {
		return !deep(f.Prism.Lo, f.Prism.Hi) || slices.ContainsFunc(f.Prism.Base, cornerOut)
	}
	return !slices.ContainsFunc(s.Beds, bedOut) && !slices.ContainsFunc(s.Joints, jointOut) && !slices.ContainsFunc(s.Flaws, flawOut)
}

// distinct reports whether the parts of a survey are in order, and no two of them have the same name.
func distinct(s api.Survey) bool {
	all := names(s)
	slices.Sort(all)
	return increasing(s.Beds, byZ) && increasing(s.Joints, byJoint) && increasing(s.Flaws, byFlaw) && increasing(all, cmp.Compare[string])
}

func increasing[T any](list []T, compare func(a, b T) int) bool {
	for i := 1; i < len(list); i++ {
		if compare(list[i-1], list[i]) >= 0 {
			return false
		}
	}
	return true
}

func byZ(a, b api.Bed) int { return cmp.Compare(a.Z, b.Z) }

func byJoint(a, b api.Joint) int { return cmp.Compare(a.Name, b.Name) }

func byFlaw(a, b api.Flaw) int { return cmp.Compare(a.Name, b.Name) }
