package boring

import (
	"slices"

	"gangsaw/api"
	"gangsaw/prism"
)

const top = api.MaxCoord

func vec(x, y, z int) api.Vec { return api.Vec{X: x, Y: y, Z: z} }

func bx(x, y, z, toX, toY, toZ int) api.Box {
	return api.Box{Min: vec(x, y, z), Max: vec(toX, toY, toZ)}
}

// cube returns the box from (from, from, from) to (to, to, to).
func cube(from, to int) api.Box { return bx(from, from, from, to, to, to) }

// bore returns a boring with these logs: Lo, Hi and State of the first one, of the second one, and so on.
func bore(name string, x, y int, numbers ...int) api.Boring {
	b := api.Boring{Name: name, At: api.Point{X: x, Y: y}}
	for i := 0; i < len(numbers); i += 3 {
		b.Logs = append(b.Logs, api.Log{Lo: numbers[i], Hi: numbers[i+1], State: numbers[i+2]})
	}
	return b
}

// example is the boring of the examples of the chapter.
func example() api.Boring {
	return bore("b1", 5, 5, 0, 10, api.Sound, 10, 20, api.Sound, 25, 30, api.Flawed)
}

// many returns a boring with so many logs that touch each other, from z 0 on.
func many(count int) api.Boring {
	b := bore("many", 5, 5)
	for i := range count {
		b.Logs = append(b.Logs, api.Log{Lo: i, Hi: i + 1, State: 1 + i%2})
	}
	return b
}

func same(a, b api.Boring) bool {
	return a.Name == b.Name && a.At == b.At && slices.Equal(a.Logs, b.Logs)
}

func isZero(b api.Boring) bool { return b.Name == "" && b.At == api.Point{} && b.Logs == nil }

func copyOf(b api.Boring) api.Boring {
	b.Logs = slices.Clone(b.Logs)
	return b
}

// draw returns numbers that look random and are the same in every run.
func draw(seed uint64) func(below int) int {
	return func(below int) int {
		seed = seed*6364136223846793005 + 1442695040888963407
		return int(seed>>33) % below
	}
}

// drawBoring returns a boring that is valid in a pit, whose logs often touch each other and the ends of the pit.
func drawBoring(next func(below int) int, name string, pit api.Box) api.Boring {
	b := bore(name, pit.Min.X+next(pit.Max.X-pit.Min.X), pit.Min.Y+next(pit.Max.Y-pit.Min.Y))
	for z := pit.Min.Z + next(3)/2*next(4); z < pit.Max.Z && len(b.Logs) < api.MaxLogs; z += next(3) / 2 * next(4) {
		hi := min(pit.Max.Z, z+1+next(4))
		b.Logs = append(b.Logs, api.Log{Lo: z, Hi: hi, State: api.Sound + next(2)})
		z = hi
	}
	return b
}

// drawAny returns a boring with logs in any order, which need not be valid.
func drawAny(next func(below int) int) api.Boring {
	b := bore("any", 0, 0)
	for range next(7) {
		b.Logs = append(b.Logs, api.Log{Lo: next(9) - 2, Hi: next(9), State: next(4)})
	}
	return b
}

// modelState is the definition of what a boring says.
func modelState(b api.Boring, z int) int {
	for _, l := range b.Logs {
		if z >= l.Lo && z <= l.Hi-1 {
			return l.State
		}
	}
	return api.Unseen
}

// modelSeen counts each z from a number to another one.
func modelSeen(b api.Boring, state, from, to int) (int, int) {
	sum, run, longest := 0, 0, 0
	for z := from; z < to; z++ {
		run++
		if modelState(b, z) != state {
			run = 0
			continue
		}
		sum++
		longest = max(longest, run)
	}
	return sum, longest
}

// logsOf returns the logs that say at each z from a number to another one what a function says.
func logsOf(from, to int, says func(z int) int) []api.Log {
	var out []api.Log
	before := api.Unseen
	for z := from; z < to; z++ {
		state := says(z)
		switch {
		case state == api.Unseen:
		case state == before:
			out[len(out)-1].Hi++
		default:
			out = append(out, api.Log{Lo: z, Hi: z + 1, State: state})
		}
		before = state
	}
	return out
}

// modelMerge joins what two borings say at each z from a number to another one.
func modelMerge(a, b api.Boring, from, to int) ([]api.Log, bool) {
	clash := false
	logs := logsOf(from, to, func(z int) int {
		s, t := modelState(a, z), modelState(b, z)
		clash = clash || s != api.Unseen && t != api.Unseen && s != t
		return max(s, t)
	})
	return logs, !clash && a.At == b.At
}

// modelAgainst asks of each flaw whether it meets each cell of the boring.
func modelAgainst(b api.Boring, s api.Survey) []Conflict {
	var out []Conflict
	for _, f := range s.Flaws {
		for _, l := range logsOf(s.Pit.Min.Z, s.Pit.Max.Z, func(z int) int {
			cell, _ := prism.Of(bx(b.At.X, b.At.Y, z, b.At.X+1, b.At.Y+1, z+1))
			if meets, _ := prism.Meets(cell, f.Prism); meets && modelState(b, z) == api.Sound {
				return api.Clash
			}
			return api.Unseen
		}) {
			out = append(out, Conflict{Flaw: f.Name, Lo: l.Lo, Hi: l.Hi})
		}
	}
	return out
}

// modelFormed is the definition of a boring that is formed; what is within the range is within a greatest pit.
func modelFormed(b api.Boring) bool {
	return Check(b, cube(-top, top)) == api.OK
}
