package shift

import (
	"math"
	"slices"
	"testing"

	"gangsaw/api"
)

func TestConstants(t *testing.T) {
	if MaxShifts != 64 || MaxFree != 64 || MaxMinute != 14400000 {
		t.Error(MaxShifts, MaxFree, MaxMinute)
	}
}

func TestExamples(t *testing.T) {
	c := example()
	week, e := Week(c)
	if n, f := Work(c, 0, 10080); n != 540 || week != 540 || e != api.OK || f != api.OK {
		t.Errorf("Work %d, %d; Week %d, %d", n, f, week, e)
	}
	for _, x := range []struct {
		name string
		got  func(c Calendar, minute, work int) (int, api.Errno)
		a, b int
		want int
	}{
		{"Next", next, 720, 0, 780},
		{"Next", next, 960, 0, 1920},
		{"After", After, 700, 30, 790},
		{"Before", Before, 790, 30, 700},
		{"Whole", Whole, 0, 200, 480},
		{"Whole", Whole, 600, 130, 780},
		{"Whole", Whole, 800, 200, 20640},
	} {
		if n, e := x.got(c, x.a, x.b); n != x.want || e != api.OK {
			t.Errorf("%s of %d and %d: %d, %d, want %d", x.name, x.a, x.b, n, e, x.want)
		}
	}
}

// next is Next with an argument that does not matter, so that it has the form of the others.
func next(c Calendar, minute, _ int) (int, api.Errno) { return Next(c, minute) }

// manyShifts returns so many shifts that touch each other, sorted.
func manyShifts(count int) []api.Shift {
	var out []api.Shift
	for i := range count {
		out = append(out, on(1+i/10, 100*(i%10), 100*(i%10)+100))
	}
	return out
}

// manyDays returns so many days, from a first one on.
func manyDays(first, count int) []int {
	var out []int
	for i := range count {
		out = append(out, first+i)
	}
	return out
}

// calendars are calendars with what Check says of them.
var calendars = []struct {
	name string
	c    Calendar
	want api.Errno
}{
	{"empty", Calendar{}, api.OK},
	{"empty lists", Calendar{Shifts: []api.Shift{}, Free: []int{}}, api.OK},
	{"the example", example(), api.OK},
	{"always", always(), api.OK},
	{"64 shifts", Calendar{Shifts: manyShifts(64)}, api.OK},
	{"65 shifts", Calendar{Shifts: manyShifts(65)}, api.ErrTooMany},
	{"64 free days", Calendar{Free: manyDays(9936, 64)}, api.OK},
	{"65 free days", Calendar{Free: manyDays(0, 65)}, api.ErrTooMany},
	{"64 shifts and free days", Calendar{Shifts: manyShifts(64), Free: manyDays(0, 64)}, api.OK},
	{"weekday 0", cal(nil, 0, 10, 20), api.ErrRange},
	{"weekday 1", cal(nil, 1, 10, 20), api.OK},
	{"weekday 7", cal(nil, 7, 10, 20), api.OK},
	{"weekday 8", cal(nil, 8, 10, 20), api.ErrRange},
	{"a weekday far below", cal(nil, math.MinInt, 10, 20), api.ErrRange},
	{"a weekday far above", cal(nil, math.MaxInt, 10, 20), api.ErrRange},
	{"From -1", cal(nil, 1, -1, 20), api.ErrRange},
	{"From and To below", cal(nil, 1, -20, -10), api.ErrRange},
	{"From 0", cal(nil, 1, 0, 1), api.OK},
	{"To 1440", cal(nil, 1, 1439, 1440), api.OK},
	{"To 1441", cal(nil, 1, 1439, 1441), api.ErrRange},
	{"From and To above", cal(nil, 1, 1441, 1442), api.ErrRange},
	{"To far above", cal(nil, 1, 0, math.MaxInt), api.ErrRange},
	{"From far below", cal(nil, 1, math.MinInt, 5), api.ErrRange},
	{"From equal to To", cal(nil, 1, 20, 20), api.ErrRange},
	{"From equal to To at 0", cal(nil, 1, 0, 0), api.ErrRange},
	{"From equal to To at 1440", cal(nil, 1, 1440, 1440), api.ErrRange},
	{"From greater than To", cal(nil, 1, 21, 20), api.ErrRange},
	{"the last shift is out of range", cal(nil, 1, 10, 20, 2, 30, 30), api.ErrRange},
	{"free day -1", cal([]int{-1}), api.ErrRange},
	{"free day 0", cal([]int{0}), api.OK},
	{"free day 9999", cal([]int{9999}), api.OK},
	{"free day 10000", cal([]int{10000}), api.ErrRange},
	{"a free day far below", cal([]int{math.MinInt}), api.ErrRange},
	{"a free day far above", cal([]int{1, math.MaxInt}), api.ErrRange},
	{"shifts that touch", cal(nil, 1, 10, 20, 1, 20, 30), api.OK},
	{"shifts that overlap", cal(nil, 1, 10, 20, 1, 19, 30), api.ErrDuplicate},
	{"a shift within another one", cal(nil, 1, 10, 50, 1, 20, 30), api.ErrDuplicate},
	{"a shift twice", cal(nil, 1, 10, 20, 1, 10, 20), api.ErrDuplicate},
	{"shifts not sorted by From", cal(nil, 1, 20, 30, 1, 10, 20), api.ErrDuplicate},
	{"shifts not sorted by weekday", cal(nil, 2, 10, 20, 1, 30, 40), api.ErrDuplicate},
	{"the last shifts overlap", cal(nil, 1, 10, 20, 2, 10, 20, 2, 15, 25), api.ErrDuplicate},
	{"the same minutes of other weekdays", cal(nil, 1, 10, 20, 2, 10, 20, 3, 5, 15), api.OK},
	{"shifts that touch at midnight", cal(nil, 1, 1400, 1440, 2, 0, 20), api.OK},
	{"free days that increase", cal([]int{1, 2, 5}), api.OK},
	{"free days that are equal", cal([]int{1, 5, 5}), api.ErrDuplicate},
	{"free days that decrease", cal([]int{5, 1}), api.ErrDuplicate},
	// Of several errors the first one counts.
	{"65 shifts, out of range, not sorted", Calendar{Shifts: append(manyShifts(64), on(0, 9, 9)), Free: []int{-1}}, api.ErrTooMany},
	{"65 free days, out of range, equal", Calendar{Shifts: []api.Shift{on(8, 1, 1)}, Free: append(manyDays(0, 64), -5)}, api.ErrTooMany},
	{"not sorted, then out of range", cal(nil, 2, 10, 20, 1, 10, 20, 9, 1, 2), api.ErrRange},
	{"not sorted, and a free day out of range", cal([]int{10000}, 2, 10, 20, 1, 10, 20), api.ErrRange},
	{"free days equal, and a shift out of range", cal([]int{3, 3}, 1, 10, 10), api.ErrRange},
	{"free days equal, then out of range", cal([]int{3, 3, -1}), api.ErrRange},
}

func TestCheck(t *testing.T) {
	for _, x := range calendars {
		if e := Check(x.c); e != x.want {
			t.Errorf("%s: %d, want %d", x.name, e, x.want)
		}
	}
}

// results calls all functions but Check and Common with times, and returns their errors and whether the other results are zero.
func results(c Calendar, a, b int) (errors []api.Errno, zero bool) {
	zero = true
	note := func(n int, e api.Errno) {
		errors = append(errors, e)
		zero = zero && n == 0
	}
	open, e := Open(c, a)
	zero = !open
	note(0, e)
	note(Work(c, a, b))
	note(Next(c, a))
	note(After(c, a, b))
	note(Before(c, a, b))
	note(Whole(c, a, b))
	return errors, zero
}

func TestErrorsOfCalendars(t *testing.T) {
	for _, x := range calendars {
		if x.want == api.OK {
			continue
		}
		for _, times := range [][2]int{{0, 0}, {0, MaxMinute}, {5, 3}, {-1, -1}, {math.MaxInt, math.MinInt}} {
			errors, zero := results(x.c, times[0], times[1])
			if slices.ContainsFunc(errors, func(e api.Errno) bool { return e != x.want }) || !zero {
				t.Errorf("%s, %d: %d, want %d", x.name, times, errors, x.want)
			}
		}
		if n, e := Week(x.c); n != 0 || e != x.want {
			t.Errorf("%s: Week %d, %d", x.name, n, e)
		}
		for _, y := range calendars {
			want := x.want
			if y.want != api.OK {
				want = y.want
			}
			if c, e := Common(y.c, x.c); !isEmpty(c) || e != want {
				t.Errorf("%s and %s: %v, %d, want %d", y.name, x.name, c, e, want)
			}
		}
		if c, e := Common(x.c, example()); !isEmpty(c) || e != x.want {
			t.Errorf("%s: %v, %d, want %d", x.name, c, e, x.want)
		}
	}
}

func TestErrorsOfTimes(t *testing.T) {
	const bad, none, ok = api.ErrRange, api.ErrNone, api.OK
	for _, x := range []struct {
		c    Calendar
		a, b int
		want []api.Errno // of Open, Work, Next, After, Before, Whole
	}{
		{example(), -1, 0, []api.Errno{bad, bad, bad, bad, bad, bad}},
		{example(), math.MinInt, 5, []api.Errno{bad, bad, bad, bad, bad, bad}},
		{example(), MaxMinute + 1, MaxMinute + 1, []api.Errno{bad, bad, bad, bad, bad, bad}},
		{example(), math.MaxInt, 5, []api.Errno{bad, bad, bad, bad, bad, bad}},
		{example(), 500, -1, []api.Errno{ok, bad, ok, bad, bad, bad}},
		{example(), 500, math.MinInt, []api.Errno{ok, bad, ok, bad, bad, bad}},
		{example(), 500, MaxMinute + 1, []api.Errno{ok, bad, ok, bad, bad, bad}},
		{example(), 500, math.MaxInt, []api.Errno{ok, bad, ok, bad, bad, bad}},
		{example(), 500, 499, []api.Errno{ok, bad, ok, ok, none, none}},
		{example(), 500, 500, []api.Errno{ok, ok, ok, ok, none, none}},
		{example(), 500, MaxMinute, []api.Errno{ok, ok, ok, none, none, none}},
		{example(), MaxMinute, MaxMinute, []api.Errno{ok, ok, none, none, none, none}},
		{example(), MaxMinute, 0, []api.Errno{ok, bad, none, ok, ok, none}},
		{example(), MaxMinute, 1, []api.Errno{ok, bad, none, none, ok, none}},
		{example(), 0, 0, []api.Errno{ok, ok, ok, ok, ok, ok}},
		{example(), 0, 1, []api.Errno{ok, ok, ok, ok, none, ok}},
		{Calendar{}, 0, 0, []api.Errno{ok, ok, none, ok, ok, none}},
		{Calendar{}, 7, 7, []api.Errno{ok, ok, none, none, none, none}},
		{Calendar{}, MaxMinute, MaxMinute, []api.Errno{ok, ok, none, none, none, none}},
		{Calendar{}, -1, 0, []api.Errno{bad, bad, bad, bad, bad, bad}},
		{Calendar{}, 0, MaxMinute + 1, []api.Errno{ok, bad, none, bad, bad, bad}},
		{always(), 0, MaxMinute, []api.Errno{ok, ok, ok, ok, none, ok}},
		{always(), 1, MaxMinute, []api.Errno{ok, ok, ok, none, none, none}},
		{always(), 1, MaxMinute - 1, []api.Errno{ok, ok, ok, ok, none, ok}},
		{always(), MaxMinute, MaxMinute, []api.Errno{ok, ok, none, none, ok, none}},
		{always(), MaxMinute - 1, MaxMinute, []api.Errno{ok, ok, ok, none, none, none}},
		{always(5000), 0, MaxMinute - day, []api.Errno{ok, ok, ok, ok, none, none}},
		{always(5000), MaxMinute, MaxMinute, []api.Errno{ok, ok, none, none, none, none}},
	} {
		got, _ := results(x.c, x.a, x.b)
		if !slices.Equal(got, x.want) {
			t.Errorf("%v, %d, %d: %d, want %d", x.c, x.a, x.b, got, x.want)
		}
		note := func(n int, e api.Errno) {
			if e != ok && n != 0 {
				t.Errorf("%v, %d, %d: %d, %d", x.c, x.a, x.b, n, e)
			}
		}
		note(Work(x.c, x.a, x.b))
		note(Next(x.c, x.a))
		note(After(x.c, x.a, x.b))
		note(Before(x.c, x.a, x.b))
		note(Whole(x.c, x.a, x.b))
		if open, e := Open(x.c, x.a); e != ok && open {
			t.Errorf("%v, %d: open, %d", x.c, x.a, e)
		}
	}
}

func TestOpen(t *testing.T) {
	touching := cal([]int{2, 8}, 1, 0, 10, 2, 600, 700, 2, 700, 800, 3, 1430, 1440, 4, 0, 5, 5, 0, 1440)
	for _, x := range []struct {
		c      Calendar
		minute int
		want   bool
	}{
		{touching, 0, true}, {touching, 9, true}, {touching, 10, false}, {touching, day, false},
		{touching, day + 599, false}, {touching, day + 600, true}, {touching, day + 699, true}, {touching, day + 700, true}, {touching, day + 799, true}, {touching, day + 800, false},
		{touching, 2*day + 1435, false}, // free
		{touching, 3 * day, true}, {touching, 3*day + 4, true}, {touching, 3*day + 5, false},
		{touching, 4*day - 1, false}, {touching, 4 * day, true}, {touching, 5*day - 1, true}, {touching, 5 * day, false},
		{touching, 7 * day, true}, {touching, 8*day + 650, false}, {touching, 9*day + 1430, true}, {touching, 10*day - 1, true}, {touching, 10 * day, true},
		{touching, MaxMinute, false}, {always(), MaxMinute, false}, {always(), MaxMinute - 1, true}, {always(), 0, true}, {always(9999), MaxMinute - 1, false}, {always(9999), MaxMinute - day - 1, true}, {always(0), day - 1, false}, {always(0), day, true},
		{Calendar{}, 0, false}, {Calendar{}, MaxMinute, false},
	} {
		if got, e := Open(x.c, x.minute); got != x.want || e != api.OK {
			t.Errorf("%v, %d: %v, %d", x.c, x.minute, got, e)
		}
	}
}

func TestTimes(t *testing.T) {
	night := cal([]int{8}, 1, 1380, 1440, 2, 0, 30, 2, 600, 660, 2, 660, 720, 5, 0, 1440, 6, 0, 1440)
	for _, x := range []struct {
		name string
		got  func(c Calendar, a, b int) (int, api.Errno)
		c    Calendar
		a, b int
		want int
	}{
		// Shifts that touch each other at midnight or in the day are one stretch of work, but not if the second day is free.
		{"Whole", Whole, night, 0, 60, 1380},
		{"Whole", Whole, night, 0, 90, 1380},
		{"Whole", Whole, night, 0, 91, day + 600},
		{"Whole", Whole, night, 1390, 80, 1390},
		{"Whole", Whole, night, 1391, 80, day + 600},
		{"Whole", Whole, night, 0, 120, day + 600},
		{"Whole", Whole, night, 0, 121, 4 * day},
		{"Whole", Whole, night, 0, 2 * day, 4 * day},
		{"Whole", Whole, night, 4*day + 1, 2 * day, 11 * day},
		{"Whole", Whole, night, 6 * day, 60, 7*day + 1380},
		{"Whole", Whole, night, 6 * day, 61, 11 * day},
		{"Whole", Whole, night, 5 * day, 0, 5 * day},
		{"Whole", Whole, night, 6 * day, 0, 7*day + 1380},
		{"Whole", Whole, night, 8 * day, 0, 11 * day},
		{"Next", next, night, 0, 0, 1380},
		{"Next", next, night, 1380, 0, 1380},
		{"Next", next, night, 1439, 0, 1439},
		{"Next", next, night, 1440, 0, 1440},
		{"Next", next, night, 1470, 0, day + 600},
		{"Next", next, night, 8 * day, 0, 11 * day},
		{"After", After, night, 0, 0, 0},
		{"After", After, night, 0, 1, 1381},
		{"After", After, night, 0, 60, 1440},
		{"After", After, night, 0, 61, 1441},
		{"After", After, night, 0, 90, 1470},
		{"After", After, night, 0, 91, day + 601},
		{"After", After, night, 1470, 0, 1470},
		{"After", After, night, 7 * day, 61, 11*day + 1},
		{"Before", Before, night, 0, 0, 0},
		{"Before", Before, night, 5000, 0, 5000},
		{"Before", Before, night, 1470, 90, 1380},
		{"Before", Before, night, day + 600, 90, 1380},
		{"Before", Before, night, day + 600, 30, 1440},
		{"Before", Before, night, day + 600, 31, 1439},
		{"Before", Before, night, day + 601, 1, day + 600},
		{"Before", Before, night, 11*day + 1, 61, 7*day + 1380},
		{"Work", Work, night, 0, 0, 0},
		{"Work", Work, night, 1400, 1450, 50},
		{"Work", Work, night, 7 * day, 14 * day, 60 + 2*day},
		{"Work", Work, night, MaxMinute, MaxMinute, 0},
		{"Work", Work, always(), 0, MaxMinute, MaxMinute},
		{"Work", Work, always(), 1, MaxMinute - 1, MaxMinute - 2},
		{"Work", Work, always(0, 5, 9999), 0, MaxMinute, MaxMinute - 3*day},
		{"Work", Work, Calendar{}, 0, MaxMinute, 0},
		{"After", After, always(), 0, MaxMinute, MaxMinute},
		{"After", After, always(), 0, MaxMinute - 1, MaxMinute - 1},
		{"After", After, always(5), 5 * day, 1, 6*day + 1},
		{"After", After, Calendar{}, 77, 0, 77},
		{"After", After, always(), MaxMinute, 0, MaxMinute},
		{"Before", Before, always(), MaxMinute, MaxMinute, 0},
		{"Before", Before, always(), MaxMinute, 1, MaxMinute - 1},
		{"Before", Before, always(5), 6 * day, 1, 5*day - 1},
		{"Before", Before, Calendar{}, MaxMinute, 0, MaxMinute},
		{"Whole", Whole, always(), 0, MaxMinute, 0},
		{"Whole", Whole, always(5), 0, 5 * day, 0},
		{"Whole", Whole, always(5), 0, 5*day + 1, 6 * day},
		{"Whole", Whole, always(5), 0, MaxMinute - 6*day, 6 * day},
		{"Whole", Whole, always(), MaxMinute - 1, 1, MaxMinute - 1},
		{"Next", next, always(0), 0, 0, day},
		{"Next", next, always(), MaxMinute - 1, 0, MaxMinute - 1},
	} {
		if n, e := x.got(x.c, x.a, x.b); n != x.want || e != api.OK {
			t.Errorf("%s of %d and %d: %d, %d, want %d", x.name, x.a, x.b, n, e, x.want)
		}
	}
}

func TestWeek(t *testing.T) {
	for _, x := range []struct {
		c    Calendar
		want int
	}{
		{Calendar{}, 0}, {example(), 540}, {always(), 7 * day}, {always(0, 1, 2, 3, 4, 5, 6), 7 * day}, {cal(nil, 7, 1439, 1440), 1}, {Calendar{Shifts: manyShifts(64)}, 6400},
	} {
		if n, e := Week(x.c); n != x.want || e != api.OK {
			t.Errorf("%v: %d, %d", x.c, n, e)
		}
	}
}

// modelled are the calendars whose every minute is counted.
func modelled() []Calendar {
	next := draw(1)
	list := []Calendar{
		example(), {}, always(), always(0, 3, 4, 9998, 9999), cal(nil, 1, 0, 1), cal(nil, 5, 1439, 1440), {Shifts: manyShifts(64), Free: manyDays(9936, 64)},
		cal([]int{3, 9}, 1, 1000, 1440, 2, 0, 700, 2, 700, 1440, 3, 0, 100, 6, 1, 1440, 7, 0, 1439),
	}
	for range 8 {
		list = append(list, drawCalendar(next))
	}
	return list
}

// times returns minutes at the begin and the end of shifts and days, near both ends of time, and others.
func times(c Calendar, next func(below int) int) []int {
	list := []int{0, 1, day - 1, day, 7 * day, MaxMinute, MaxMinute - 1, MaxMinute - day, next(MaxMinute), next(60 * day), next(60 * day), MaxMinute - next(30*day)}
	for range 12 {
		d := []int{next(20), 9980 + next(20), next(10000)}[next(3)]
		list = append(list, d*day+next(2)*next(day))
		if len(c.Shifts) > 0 {
			s := c.Shifts[next(len(c.Shifts))]
			d -= d%7 + 1 - s.Weekday
			list = append(list, d*day+[]int{s.From, s.To}[next(2)]+next(3)-1)
		}
	}
	for i, n := range list {
		list[i] = max(0, min(n, MaxMinute))
	}
	return list
}

func TestAgainstTheModel(t *testing.T) {
	next := draw(2)
	for _, c := range modelled() {
		m := modelOf(c)
		before := copyOf(c)
		for _, a := range times(c, next) {
			if got, e := Open(c, a); got != m.open(a) || got != modelOpen(c, a) || e != api.OK {
				t.Fatalf("%v: Open of %d: %v, %d", c, a, got, e)
			}
			checkMinute(t, c, "Next", a, 0, Next, m.next)
			for _, b := range times(c, next) {
				if got, e := Work(c, min(a, b), max(a, b)); got != m.work(min(a, b), max(a, b)) || e != api.OK {
					t.Fatalf("%v: Work of %d and %d: %d, %d", c, min(a, b), max(a, b), got, e)
				}
			}
			total := m.work(0, MaxMinute)
			for _, work := range []int{0, 1, next(100), next(600), next(3000), m.work(a, MaxMinute), m.work(a, MaxMinute) + 1, m.work(0, a), m.work(0, a) + 1, m.work(a, MaxMinute) / 2, next(total + 1), MaxMinute} {
				work = min(work, MaxMinute)
				checkTime(t, c, "After", a, work, After, m.after)
				checkTime(t, c, "Before", a, work, Before, m.before)
			}
			for _, work := range []int{0, 1, next(100), next(700), next(1500), 1441} {
				checkTime(t, c, "Whole", a, work, Whole, m.whole)
			}
		}
		if !equal(c, before) {
			t.Errorf("%v was changed to %v", before, c)
		}
	}
}

func checkMinute(t *testing.T, c Calendar, name string, a, b int, got func(c Calendar, a int) (int, api.Errno), want func(a int) (int, bool)) {
	t.Helper()
	checkTime(t, c, name, a, b, func(c Calendar, a, _ int) (int, api.Errno) { return got(c, a) }, func(a, _ int) (int, bool) { return want(a) })
}

func checkTime(t *testing.T, c Calendar, name string, a, b int, got func(c Calendar, a, b int) (int, api.Errno), want func(a, b int) (int, bool)) {
	t.Helper()
	n, e := got(c, a, b)
	m, found := want(a, b)
	if found && (n != m || e != api.OK) || !found && (n != 0 || e != api.ErrNone) {
		t.Fatalf("%v: %s of %d and %d: %d, %d, want %d, %v", c, name, a, b, n, e, m, found)
	}
}

func TestEveryMinuteOfSomeWeeks(t *testing.T) {
	next := draw(3)
	for range 6 {
		c := drawCalendar(next)
		for _, from := range []int{0, MaxMinute - 14*day} {
			work := 0
			for minute := from; minute < from+14*day; minute++ {
				want := modelOpen(c, minute)
				if got, e := Open(c, minute); got != want || e != api.OK {
					t.Fatalf("%v: Open of %d: %v, %d", c, minute, got, e)
				}
				if n, e := Next(c, minute); want != (n == minute && e == api.OK) {
					t.Fatalf("%v: Next of %d: %d, %d", c, minute, n, e)
				}
				if want {
					work++
				}
			}
			if n, e := Work(c, from, from+14*day); n != work || e != api.OK {
				t.Fatalf("%v: Work from %d: %d, %d, want %d", c, from, n, e, work)
			}
		}
	}
}

func TestConsequences(t *testing.T) {
	next := draw(4)
	for range 300 {
		c := drawCalendar(next)
		list := times(c, next)[:9]
		slices.Sort(list)
		from, mid, to := list[2], list[4], list[7]
		first, _ := Work(c, from, mid)
		second, _ := Work(c, mid, to)
		both, _ := Work(c, from, to)
		if first+second != both {
			t.Fatalf("%v: from %d to %d to %d: %d and %d are not %d", c, from, mid, to, first, second, both)
		}
		end, e := After(c, from, both)
		idle, _ := Work(c, min(end, to), to)
		if e != api.OK || end > to || idle != 0 {
			t.Fatalf("%v: After does not undo Work from %d to %d: %d, %d", c, from, to, end, e)
		}
		sooner, e := After(c, from, first)
		if n, _ := Work(c, from, sooner); e != api.OK || sooner > end || n != first {
			t.Fatalf("%v: After of %d and %d is %d, %d, with %d minutes of work", c, from, first, sooner, e, n)
		}
		begin, e := Before(c, to, both)
		if n, _ := Work(c, begin, to); e != api.OK || begin < from || n != both {
			t.Fatalf("%v: Before of %d and %d is %d, %d", c, to, both, begin, e)
		}
		checkWeek(t, c, next(1428))
	}
}

// checkWeek checks that a week without free days has the work of a week.
func checkWeek(t *testing.T, c Calendar, week int) {
	t.Helper()
	want, _ := Week(c)
	for d := range 7 {
		if slices.Contains(c.Free, 7*week+d) {
			return
		}
	}
	if n, e := Work(c, 7*week*day, 7*(week+1)*day); n != want || e != api.OK {
		t.Fatalf("%v: the week %d has %d minutes of work, %d, want %d", c, week, n, e, want)
	}
}

func TestCommonKnownCalendars(t *testing.T) {
	for i, x := range []struct{ a, b, want Calendar }{
		{Calendar{}, Calendar{}, Calendar{}},
		{example(), Calendar{}, cal([]int{7})},
		{Calendar{}, cal([]int{3, 9}, 1, 0, 10), cal([]int{3, 9})},
		{example(), example(), example()},
		{example(), always(), example()},
		{example(), always(2, 7, 8), cal([]int{2, 7, 8}, 1, 480, 720, 1, 780, 960, 2, 480, 600)},
		{cal([]int{1, 5}), cal([]int{0, 5, 9999}), cal([]int{0, 1, 5, 9999})},
		{cal(nil, 1, 100, 200), cal(nil, 2, 100, 200), Calendar{}},
		{cal(nil, 1, 100, 200), cal(nil, 1, 200, 300), Calendar{}},
		{cal(nil, 1, 100, 200), cal(nil, 1, 199, 300), cal(nil, 1, 199, 200)},
		{cal(nil, 1, 100, 200), cal(nil, 1, 120, 140, 1, 150, 160), cal(nil, 1, 120, 140, 1, 150, 160)},
		// Neighbours are joined, but not at midnight.
		{cal(nil, 1, 100, 200, 1, 200, 300), cal(nil, 1, 150, 250), cal(nil, 1, 150, 250)},
		{cal(nil, 1, 100, 200, 1, 200, 300), cal(nil, 1, 100, 200, 1, 200, 300), cal(nil, 1, 100, 300)},
		{cal(nil, 1, 100, 200, 1, 200, 300, 1, 300, 400), cal(nil, 1, 100, 250, 1, 250, 400), cal(nil, 1, 100, 400)},
		{cal(nil, 1, 100, 200, 1, 201, 300), cal(nil, 1, 0, 1440), cal(nil, 1, 100, 200, 1, 201, 300)},
		{always(), always(), always()},
		{cal(nil, 1, 1400, 1440, 2, 0, 50), always(), cal(nil, 1, 1400, 1440, 2, 0, 50)},
		{cal(nil, 1, 10, 20, 3, 20, 40), cal(nil, 1, 5, 20, 2, 20, 30, 3, 20, 30), cal(nil, 1, 10, 20, 3, 20, 30)},
	} {
		for _, pair := range [][2]Calendar{{x.a, x.b}, {x.b, x.a}} {
			if got, e := Common(pair[0], pair[1]); !equal(got, x.want) || e != api.OK {
				t.Errorf("%d: %v, %d, want %v", i, got, e, x.want)
			}
		}
	}
}

func TestCommonTooMany(t *testing.T) {
	var comb Calendar // 64 shifts of one weekday, which do not touch each other
	for i := range 64 {
		comb.Shifts = append(comb.Shifts, on(3, 20*i, 20*i+10))
	}
	for i, x := range []struct {
		a, b   Calendar
		shifts int
		free   int
		want   api.Errno
	}{
		{comb, cal(nil, 3, 0, 1440), 64, 0, api.OK},
		{comb, cal(nil, 3, 0, 5, 3, 5, 1440), 64, 0, api.OK}, // 65 before neighbours are joined
		{comb, cal(nil, 3, 0, 5, 3, 6, 1440), 0, 0, api.ErrTooMany},
		{comb, cal(nil, 3, 10, 1275, 3, 1276, 1440), 63, 0, api.OK},
		{comb, cal(nil, 3, 5, 1264, 3, 1266, 1270), 0, 0, api.ErrTooMany},
		{comb, comb, 64, 0, api.OK},
		{Calendar{Free: manyDays(0, 64)}, Calendar{Free: manyDays(0, 64)}, 0, 64, api.OK},
		{Calendar{Free: manyDays(0, 64)}, Calendar{Free: manyDays(1, 64)}, 0, 0, api.ErrTooMany},
		{Calendar{Free: manyDays(0, 32)}, Calendar{Free: manyDays(32, 32)}, 0, 64, api.OK},
		{Calendar{Free: manyDays(0, 32)}, Calendar{Free: manyDays(31, 34)}, 0, 0, api.ErrTooMany},
		{Calendar{Free: manyDays(0, 64)}, Calendar{Free: []int{9999}}, 0, 0, api.ErrTooMany},
		{Calendar{Free: manyDays(0, 64)}, Calendar{Free: []int{63}}, 0, 64, api.OK},
		// The errors of the calendars come first, those of a before those of b.
		{Calendar{Free: manyDays(0, 64)}, Calendar{Free: []int{9999, 9999}}, 0, 0, api.ErrDuplicate},
		{Calendar{Free: manyDays(0, 64)}, cal([]int{9999}, 0, 1, 2), 0, 0, api.ErrRange},
	} {
		for _, pair := range [][2]Calendar{{x.a, x.b}, {x.b, x.a}} {
			c, e := Common(pair[0], pair[1])
			if e != x.want || len(c.Shifts) != x.shifts || len(c.Free) != x.free || e != api.OK && !isEmpty(c) {
				t.Errorf("%d: %d shifts, %d free days, %d, want %d", i, len(c.Shifts), len(c.Free), e, x.want)
			}
		}
	}
}

func TestCommonDrawnCalendars(t *testing.T) {
	next := draw(5)
	for range 60 {
		a, b := drawCalendar(next), drawCalendar(next)
		before := [2]Calendar{copyOf(a), copyOf(b)}
		want := modelCommon(a, b)
		e := api.OK
		if len(want.Shifts) > MaxShifts || len(want.Free) > MaxFree {
			want, e = Calendar{}, api.ErrTooMany
		}
		for _, pair := range [][2]Calendar{{a, b}, {b, a}} {
			if got, f := Common(pair[0], pair[1]); !equal(got, want) || f != e || f == api.OK && Check(got) != api.OK {
				t.Fatalf("%v: %v, %d, want %v, %d", pair, got, f, want, e)
			}
		}
		own, e := Common(a, a)
		if again, f := Common(own, a); !equal(own, modelCommon(a, a)) || !equal(own, again) || e != api.OK || f != api.OK {
			t.Fatalf("%v: with itself %v, %d, and again %v, %d", a, own, e, again, f)
		}
		if !equal(a, before[0]) || !equal(b, before[1]) {
			t.Fatalf("%v was changed to %v, %v", before, a, b)
		}
	}
}

func TestCommonSharesNoMemory(t *testing.T) {
	a, b := example(), always()
	for _, pair := range [][2]Calendar{{a, b}, {b, a}, {a, a}} {
		got, _ := Common(pair[0], pair[1])
		clear(got.Shifts[:cap(got.Shifts)])
		clear(got.Free[:cap(got.Free)])
		_ = append(got.Free, 5)
	}
	spare := Calendar{Free: make([]int, 1, 9)}
	got, _ := Common(spare, Calendar{})
	_ = append(got.Free, 5)
	if !equal(a, example()) || !equal(b, always()) || spare.Free[:2][1] != 0 {
		t.Error(a, b, spare.Free[:2])
	}
}
