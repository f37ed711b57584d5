// Package span is layer 1: intervals of integers and sets of them. See shared/doc/01-span.md.
package span

import (
	"cmp"
	"slices"

	"gangsaw/api"
)

// Limits of intervals.
const (
	MaxNumber = 1000000000000
	MaxList   = 10000
)

// Check returns OK for a valid interval, or the first error.
func Check(a api.Interval) api.Errno { return checkAll(a) }

// Contains reports whether a number lies in an interval.
func Contains(a api.Interval, n int) bool { return a.Lo <= n && n <= a.Hi }

// Within reports whether all numbers of a lie in b.
func Within(a, b api.Interval) bool { return a.Lo > a.Hi || overlap(a, b) == a }

// Length returns how many numbers an interval has.
func Length(a api.Interval) int {
	if Check(a) != api.OK {
		return 0
	}
	return a.Hi - a.Lo + 1
}

// Add returns the interval of all sums of a number of a and one of b.
func Add(a, b api.Interval) (api.Interval, api.Errno) {
	return Sum([]api.Interval{a, b})
}

// Sub returns the interval of all differences of a number of a and one of b.
func Sub(a, b api.Interval) (api.Interval, api.Errno) {
	if e := checkAll(a, b); e != api.OK {
		return api.Interval{}, e
	}
	return ranged(api.Interval{Lo: a.Lo - b.Hi, Hi: a.Hi - b.Lo})
}

// Sum returns the interval of all sums of one number of each interval.
func Sum(list []api.Interval) (api.Interval, api.Errno) {
	if e := checkLists(list); e != api.OK {
		return api.Interval{}, e
	}
	// MaxList ends of at most MaxNumber cannot overflow, so that only the whole sum needs a check.
	var sum api.Interval
	for _, a := range list {
		sum.Lo += a.Lo
		sum.Hi += a.Hi
	}
	return ranged(sum)
}

// Intersect returns the common numbers.
func Intersect(a, b api.Interval) (api.Interval, api.Errno) {
	if e := checkAll(a, b); e != api.OK {
		return api.Interval{}, e
	}
	both := overlap(a, b)
	if both.Lo > both.Hi {
		return api.Interval{}, api.ErrNone
	}
	return both, api.OK
}

// Hull returns the least interval that contains both.
func Hull(a, b api.Interval) (api.Interval, api.Errno) {
	if e := checkAll(a, b); e != api.OK {
		return api.Interval{}, e
	}
	return api.Interval{Lo: min(a.Lo, b.Lo), Hi: max(a.Hi, b.Hi)}, api.OK
}

// Normalize returns the set of all numbers of intervals: increasing, not touching.
func Normalize(list []api.Interval) ([]api.Interval, api.Errno) {
	if e := checkLists(list); e != api.OK {
		return nil, e
	}
	return normal(list), api.OK
}

// Union returns the set of the numbers of one list or the other.
func Union(a, b []api.Interval) ([]api.Interval, api.Errno) {
	if e := checkLists(a, b); e != api.OK {
		return nil, e
	}
	return normal(slices.Concat(a, b)), api.OK
}

// Minus returns the set of the numbers of a that are not in b.
func Minus(a, b []api.Interval) ([]api.Interval, api.Errno) {
	if e := checkLists(a, b); e != api.OK {
		return nil, e
	}
	return common(normal(a), gaps(normal(b))), api.OK
}

// Common returns the set of the numbers of both lists.
func Common(a, b []api.Interval) ([]api.Interval, api.Errno) {
	if e := checkLists(a, b); e != api.OK {
		return nil, e
	}
	return common(normal(a), normal(b)), api.OK
}

// Count returns how many numbers the intervals of a list have together, each counted once.
func Count(list []api.Interval) (int, api.Errno) {
	if e := checkLists(list); e != api.OK {
		return 0, e
	}
	count := 0
	for _, a := range normal(list) {
		count += Length(a)
	}
	return count, api.OK
}

func checkLists(lists ...[]api.Interval) api.Errno {
	for _, list := range lists {
		if len(list) > MaxList {
			return api.ErrTooMany
		}
	}
	return checkAll(slices.Concat(lists...)...)
}

// checkAll looks for ErrRange in all intervals before it looks for ErrInvalid in any of them.
func checkAll(list ...api.Interval) api.Errno {
	for _, a := range list {
		if !inRange(a) {
			return api.ErrRange
		}
	}
	for _, a := range list {
		if a.Lo > a.Hi {
			return api.ErrInvalid
		}
	}
	return api.OK
}

func inRange(a api.Interval) bool {
	return min(a.Lo, a.Hi) >= -MaxNumber && max(a.Lo, a.Hi) <= MaxNumber
}

func ranged(a api.Interval) (api.Interval, api.Errno) {
	if !inRange(a) {
		return api.Interval{}, api.ErrRange
	}
	return a, api.OK
}

// overlap has Lo greater than Hi where there is no common number.
func overlap(a, b api.Interval) api.Interval {
	return api.Interval{Lo: max(a.Lo, b.Lo), Hi: min(a.Hi, b.Hi)}
}

// normal returns the normal form of valid intervals.
func normal(list []api.Interval) []api.Interval {
	sorted := slices.Clone(list)
	slices.SortFunc(sorted, func(a, b api.Interval) int { return cmp.Compare(a.Lo, b.Lo) })
	var out []api.Interval
	for _, a := range sorted {
		last := len(out) - 1
		if last >= 0 && a.Lo <= out[last].Hi+1 {
			out[last].Hi = max(out[last].Hi, a.Hi)
		} else {
			out = append(out, a)
		}
	}
	return out
}

// common expects normal forms. Its result needs no joining: between two overlaps lies a number that a or b lacks.
func common(a, b []api.Interval) []api.Interval {
	var out []api.Interval
	for len(a) > 0 && len(b) > 0 {
		if both := overlap(a[0], b[0]); both.Lo <= both.Hi {
			out = append(out, both)
		}
		if a[0].Hi < b[0].Hi {
			a = a[1:]
		} else {
			b = b[1:]
		}
	}
	return out
}

// gaps returns the normal form of the numbers of the whole range that a normal form lacks.
func gaps(list []api.Interval) []api.Interval {
	var out []api.Interval
	next := -MaxNumber
	for _, a := range list {
		if next < a.Lo {
			out = append(out, api.Interval{Lo: next, Hi: a.Lo - 1})
		}
		next = a.Hi + 1
	}
	if next <= MaxNumber {
		out = append(out, api.Interval{Lo: next, Hi: MaxNumber})
	}
	return out
}
