package shift

import (
	"iter"
	"slices"

	"gangsaw/api"
)

// The units of time.
const (
	dayLength = 1440 // minutes
	weekDays  = 7
	allDays   = MaxMinute / dayLength
)

// checkTimes returns the first error of a calendar, or ErrRange if a minute or a number of minutes is outside its range.
func checkTimes(c Calendar, times ...int) api.Errno {
	if e := Check(c); e != api.OK {
		return e
	}
	if slices.ContainsFunc(times, func(n int) bool { return n < 0 || n > MaxMinute }) {
		return api.ErrRange
	}
	return api.OK
}

func inRange(c Calendar) bool {
	wrongShift := func(s api.Shift) bool {
		return s.Weekday < 1 || s.Weekday > weekDays || s.From < 0 || s.From >= s.To || s.To > dayLength
	}
	wrongDay := func(day int) bool { return day < 0 || day >= allDays }
	return !slices.ContainsFunc(c.Shifts, wrongShift) && !slices.ContainsFunc(c.Free, wrongDay)
}

// inOrder expects that no shift is empty.
func inOrder(c Calendar) bool {
	for i := 1; i < len(c.Shifts); i++ {
		s, next := c.Shifts[i-1], c.Shifts[i]
		if s.Weekday > next.Weekday || s.Weekday == next.Weekday && s.To > next.From {
			return false
		}
	}
	for i := 1; i < len(c.Free); i++ {
		if c.Free[i-1] >= c.Free[i] {
			return false
		}
	}
	return true
}

// shiftsOf yields the shifts of a day.
func shiftsOf(c Calendar, day int) iter.Seq[api.Shift] {
	return func(yield func(api.Shift) bool) {
		if _, free := slices.BinarySearch(c.Free, day); free {
			return
		}
		for _, s := range c.Shifts {
			if s.Weekday == day%weekDays+1 && !yield(s) {
				return
			}
		}
	}
}

// stretches yields the minutes of work from one minute to another one: of each shift the first of them, and the minute behind the last.
func stretches(c Calendar, from, to int) iter.Seq2[int, int] {
	return func(yield func(lo, hi int) bool) {
		for day := from / dayLength; day*dayLength < to; day++ {
			for s := range shiftsOf(c, day) {
				lo := max(from, day*dayLength+s.From)
				hi := min(to, day*dayLength+s.To)
				if lo < hi && !yield(lo, hi) {
					return
				}
			}
		}
	}
}

func count(c Calendar, from, to int) int {
	sum := 0
	for lo, hi := range stretches(c, from, to) {
		sum += hi - lo
	}
	return sum
}

// overlaps returns what the shifts of two valid calendars have in common, sorted and with neighbours joined.
func overlaps(a, b []api.Shift) []api.Shift {
	var out []api.Shift
	add := func(s api.Shift) {
		last := len(out) - 1
		if last >= 0 && out[last].Weekday == s.Weekday && out[last].To == s.From {
			out[last].To = s.To
		} else {
			out = append(out, s)
		}
	}
	for _, s := range a {
		for _, t := range b {
			both := api.Shift{Weekday: s.Weekday, From: max(s.From, t.From), To: min(s.To, t.To)}
			if s.Weekday == t.Weekday && both.From < both.To {
				add(both)
			}
		}
	}
	return out
}
