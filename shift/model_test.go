package shift

import (
	"slices"
	"sort"

	"gangsaw/api"
)

const day = 1440

func on(weekday, from, to int) api.Shift { return api.Shift{Weekday: weekday, From: from, To: to} }

// cal returns the calendar with these shifts: weekday, From and To of the first one, of the second one, and so on.
func cal(free []int, numbers ...int) Calendar {
	c := Calendar{Free: free}
	for i := 0; i < len(numbers); i += 3 {
		c.Shifts = append(c.Shifts, on(numbers[i], numbers[i+1], numbers[i+2]))
	}
	return c
}

// example is the calendar of the examples of the chapter.
func example() Calendar { return cal([]int{7}, 1, 480, 720, 1, 780, 960, 2, 480, 600) }

// always is the calendar in which all minutes of all days but the free ones are minutes of work.
func always(free ...int) Calendar {
	c := Calendar{Free: free}
	for weekday := 1; weekday <= 7; weekday++ {
		c.Shifts = append(c.Shifts, on(weekday, 0, day))
	}
	return c
}

func equal(a, b Calendar) bool {
	return slices.Equal(a.Shifts, b.Shifts) && slices.Equal(a.Free, b.Free)
}

func isEmpty(c Calendar) bool { return c.Shifts == nil && c.Free == nil }

func copyOf(c Calendar) Calendar {
	return Calendar{Shifts: slices.Clone(c.Shifts), Free: slices.Clone(c.Free)}
}

// draw returns numbers that look random and are the same in every run.
func draw(seed uint64) func(below int) int {
	return func(below int) int {
		seed = seed*6364136223846793005 + 1442695040888963407
		return int(seed>>33) % below
	}
}

// drawCalendar returns a valid calendar whose shifts often touch each other, also at midnight.
func drawCalendar(next func(below int) int) Calendar {
	var c Calendar
	for weekday := 1; weekday <= 7; weekday++ {
		at := next(3) / 2 * next(700)
		for range next(5) {
			to := at + 1 + next(500)
			if next(4) == 0 {
				to = day
			}
			if to > day {
				break
			}
			c.Shifts = append(c.Shifts, on(weekday, at, to))
			at = to + next(2)*next(200)
			if at >= day {
				break
			}
		}
	}
	for free := next(12); free < 10000 && len(c.Free) < MaxFree && next(9) > 0; free += 1 + next(4)*next(5) {
		c.Free = append(c.Free, free)
	}
	for free := 9990 + next(8); free < 10000 && len(c.Free) < MaxFree; free += 1 + next(5) {
		c.Free = append(c.Free, free)
	}
	return c
}

// modelOpen is the definition of a minute of work.
func modelOpen(c Calendar, minute int) bool {
	if minute < 0 || minute >= MaxMinute || slices.Contains(c.Free, minute/day) {
		return false
	}
	return slices.ContainsFunc(c.Shifts, func(s api.Shift) bool {
		return s.Weekday == minute/day%7+1 && s.From <= minute%day && minute%day < s.To
	})
}

// model has for each minute how many minutes of work are in front of it.
type model []int32

// modelOf looks at each minute of one week, and takes that for all days that are not free.
func modelOf(c Calendar) model {
	week := make([]bool, 7*day)
	for minute := range week {
		week[minute] = modelOpen(Calendar{Shifts: c.Shifts}, minute)
	}
	m := make(model, MaxMinute+1)
	for d := range MaxMinute / day {
		free := slices.Contains(c.Free, d)
		for i := range day {
			m[d*day+i+1] = m[d*day+i]
			if !free && week[d%7*day+i] {
				m[d*day+i+1]++
			}
		}
	}
	return m
}

func (m model) open(minute int) bool { return minute < MaxMinute && m[minute+1] > m[minute] }

func (m model) work(from, to int) int { return int(m[to] - m[from]) }

func (m model) next(minute int) (int, bool) {
	n := sort.Search(MaxMinute-minute, func(i int) bool { return m[minute+i+1] > m[minute] })
	return minute + n, minute+n < MaxMinute
}

func (m model) after(from, work int) (int, bool) {
	n := sort.Search(MaxMinute-from+1, func(i int) bool { return m.work(from, from+i) >= work })
	return from + n, from+n <= MaxMinute
}

func (m model) before(to, work int) (int, bool) {
	n := sort.Search(to+1, func(i int) bool { return m.work(to-i, to) >= work })
	return to - n, n <= to
}

// whole tries the minutes of work, but leaves out as many as are not of work behind one: up to the last of those, none is the begin of what is looked for.
func (m model) whole(from, work int) (int, bool) {
	length := max(work, 1)
	for t, ok := m.next(from); ok && t+length <= MaxMinute; t, ok = m.next(t) {
		idle := length - m.work(t, t+length)
		if idle == 0 {
			return t, true
		}
		t += idle
	}
	return 0, false
}

// modelCommon looks at each minute of a week, and at each day.
func modelCommon(a, b Calendar) Calendar {
	var out Calendar
	for weekday := range 7 {
		for i := range day {
			minute := weekday*day + i
			if !modelOpen(Calendar{Shifts: a.Shifts}, minute) || !modelOpen(Calendar{Shifts: b.Shifts}, minute) {
				continue
			}
			last := len(out.Shifts) - 1
			if last >= 0 && out.Shifts[last].Weekday == weekday+1 && out.Shifts[last].To == i {
				out.Shifts[last].To++
			} else {
				out.Shifts = append(out.Shifts, on(weekday+1, i, i+1))
			}
		}
	}
	for d := range MaxMinute / day {
		if slices.Contains(a.Free, d) || slices.Contains(b.Free, d) {
			out.Free = append(out.Free, d)
		}
	}
	return out
}
