package span

import (
	"math"
	"slices"
	"testing"

	"gangsaw/api"
)

func in(lo, hi int) api.Interval { return api.Interval{Lo: lo, Hi: hi} }

func list(ends ...int) []api.Interval {
	var out []api.Interval
	for i := 0; i < len(ends); i += 2 {
		out = append(out, in(ends[i], ends[i+1]))
	}
	return out
}

// rejected has intervals with the error that each of them gives alone.
var rejected = []struct {
	a    api.Interval
	want api.Errno
}{
	{in(2, 1), api.ErrInvalid},
	{in(MaxNumber, -MaxNumber), api.ErrInvalid},
	{in(0, MaxNumber+1), api.ErrRange},
	{in(MaxNumber+1, MaxNumber+2), api.ErrRange},
	{in(-MaxNumber-1, 0), api.ErrRange},
	{in(-MaxNumber-2, -MaxNumber-1), api.ErrRange},
	{in(math.MinInt, math.MaxInt), api.ErrRange},
	{in(MaxNumber+1, 0), api.ErrRange},
	{in(0, -MaxNumber-1), api.ErrRange},
	{in(math.MaxInt, math.MinInt), api.ErrRange},
	{in(math.MinInt, math.MinInt), api.ErrRange},
}

var accepted = []api.Interval{
	in(0, 0), in(-3, 4), in(-MaxNumber, MaxNumber), in(MaxNumber, MaxNumber), in(-MaxNumber, -MaxNumber),
}

func TestCheckAndLength(t *testing.T) {
	for _, a := range accepted {
		if e := Check(a); e != api.OK {
			t.Errorf("Check(%v) = %d", a, e)
		}
		if n := Length(a); n != a.Hi-a.Lo+1 {
			t.Errorf("Length(%v) = %d", a, n)
		}
	}
	for _, c := range rejected {
		if e := Check(c.a); e != c.want {
			t.Errorf("Check(%v) = %d, want %d", c.a, e, c.want)
		}
		if n := Length(c.a); n != 0 {
			t.Errorf("Length(%v) = %d", c.a, n)
		}
	}
	if n := Length(in(-MaxNumber, MaxNumber)); n != 2*MaxNumber+1 {
		t.Errorf("Length of the whole range: %d", n)
	}
}

func TestContains(t *testing.T) {
	for lo := -2; lo <= 2; lo++ {
		for hi := -2; hi <= 2; hi++ {
			for n := -3; n <= 3; n++ {
				want := n >= lo && n <= hi
				if got := Contains(in(lo, hi), n); got != want {
					t.Errorf("Contains(%d to %d, %d) = %v", lo, hi, n, got)
				}
			}
		}
	}
	wide := in(math.MinInt, math.MaxInt)
	if !Contains(wide, math.MinInt) || !Contains(wide, 0) || !Contains(wide, math.MaxInt) {
		t.Error("an interval out of range contains its numbers all the same")
	}
	if Contains(in(math.MaxInt, math.MinInt), 0) || Contains(in(5, math.MaxInt), math.MinInt) {
		t.Error("Contains at the extremes")
	}
}

func TestWithin(t *testing.T) {
	for alo := -2; alo <= 2; alo++ {
		for ahi := -2; ahi <= 2; ahi++ {
			for blo := -2; blo <= 2; blo++ {
				for bhi := -2; bhi <= 2; bhi++ {
					want := true
					for n := alo; n <= ahi; n++ {
						want = want && n >= blo && n <= bhi
					}
					if got := Within(in(alo, ahi), in(blo, bhi)); got != want {
						t.Errorf("Within(%d to %d, %d to %d) = %v", alo, ahi, blo, bhi, got)
					}
				}
			}
		}
	}
	wide := in(math.MinInt, math.MaxInt)
	if !Within(wide, wide) || Within(wide, in(-MaxNumber, MaxNumber)) || !Within(in(math.MaxInt, math.MinInt), in(1, 0)) {
		t.Error("Within at the extremes")
	}
}

type pairFunction struct {
	name string
	call func(a, b api.Interval) (api.Interval, api.Errno)
}

func pairFunctions() []pairFunction {
	return []pairFunction{
		{"Add", Add}, {"Sub", Sub}, {"Intersect", Intersect}, {"Hull", Hull},
		{"Sum", func(a, b api.Interval) (api.Interval, api.Errno) { return Sum([]api.Interval{a, b}) }},
	}
}

func TestErrorsOfPairs(t *testing.T) {
	for _, f := range pairFunctions() {
		refuse := func(a, b api.Interval, want api.Errno) {
			if got, e := f.call(a, b); e != want || got != in(0, 0) {
				t.Errorf("%s(%v, %v) = %v, %d, want %d", f.name, a, b, got, e, want)
			}
		}
		for _, c := range rejected {
			refuse(c.a, in(0, 0), c.want)
			refuse(in(0, 0), c.a, c.want)
			for _, d := range rejected {
				want := api.ErrInvalid
				if c.want == api.ErrRange || d.want == api.ErrRange {
					want = api.ErrRange
				}
				refuse(c.a, d.a, want)
			}
		}
	}
}

func TestAddAndSub(t *testing.T) {
	for alo := -2; alo <= 2; alo++ {
		for ahi := alo; ahi <= 2; ahi++ {
			for blo := -2; blo <= 2; blo++ {
				for bhi := blo; bhi <= 2; bhi++ {
					checkArithmetic(t, in(alo, ahi), in(blo, bhi))
				}
			}
		}
	}
	if a, e := Add(in(1, 3), in(10, 20)); a != in(11, 23) || e != api.OK {
		t.Error("example of Add", a, e)
	}
	if a, e := Sub(in(1, 3), in(10, 20)); a != in(-19, -7) || e != api.OK {
		t.Error("example of Sub", a, e)
	}
}

func checkArithmetic(t *testing.T, a, b api.Interval) {
	sums, differences := map[int]bool{}, map[int]bool{}
	for x := a.Lo; x <= a.Hi; x++ {
		for y := b.Lo; y <= b.Hi; y++ {
			sums[x+y], differences[x-y] = true, true
		}
	}
	equals := func(name string, got api.Interval, e api.Errno, want map[int]bool) {
		if e != api.OK || Length(got) != len(want) || !want[got.Lo] || !want[got.Hi] {
			t.Errorf("%s of %v and %v: %v, %d", name, a, b, got, e)
		}
	}
	sum, e := Add(a, b)
	equals("Add", sum, e, sums)
	difference, e := Sub(a, b)
	equals("Sub", difference, e, differences)
	total, e := Sum([]api.Interval{a, b})
	equals("Sum", total, e, sums)
}

func TestRangeOfResults(t *testing.T) {
	for _, f := range pairFunctions() {
		expect := func(a, b, want api.Interval, code api.Errno) {
			if got, e := f.call(a, b); got != want || e != code {
				t.Errorf("%s(%v, %v) = %v, %d, want %v, %d", f.name, a, b, got, e, want, code)
			}
		}
		switch f.name {
		case "Add", "Sum":
			expect(in(0, MaxNumber-1), in(0, 1), in(0, MaxNumber), api.OK)
			expect(in(0, MaxNumber), in(0, 1), in(0, 0), api.ErrRange)
			expect(in(1-MaxNumber, 0), in(-1, 0), in(-MaxNumber, 0), api.OK)
			expect(in(-MaxNumber, 0), in(-1, 0), in(0, 0), api.ErrRange)
			expect(in(MaxNumber, MaxNumber), in(MaxNumber, MaxNumber), in(0, 0), api.ErrRange)
		case "Sub":
			expect(in(0, MaxNumber-1), in(-1, 0), in(0, MaxNumber), api.OK)
			expect(in(0, MaxNumber), in(-1, 0), in(0, 0), api.ErrRange)
			expect(in(1-MaxNumber, 0), in(0, 1), in(-MaxNumber, 0), api.OK)
			expect(in(-MaxNumber, 0), in(0, 1), in(0, 0), api.ErrRange)
		case "Hull":
			expect(in(MaxNumber, MaxNumber), in(-MaxNumber, -MaxNumber), in(-MaxNumber, MaxNumber), api.OK)
		}
	}
}

func TestSum(t *testing.T) {
	for _, c := range []struct {
		list []api.Interval
		want api.Interval
		code api.Errno
	}{
		{nil, in(0, 0), api.OK},
		{[]api.Interval{}, in(0, 0), api.OK},
		{list(-4, 7), in(-4, 7), api.OK},
		{list(1, 2, 1, 2, 1, 2), in(3, 6), api.OK},
		{list(MaxNumber, MaxNumber, MaxNumber, MaxNumber, -MaxNumber, -MaxNumber), in(MaxNumber, MaxNumber), api.OK},
		{list(-MaxNumber, -MaxNumber, -1, -1, 2, 2), in(1-MaxNumber, 1-MaxNumber), api.OK},
		{list(0, MaxNumber, 0, 1, 0, 0), in(0, 0), api.ErrRange},
		{list(-MaxNumber, 0, -1, 0), in(0, 0), api.ErrRange},
		{list(0, 0, 1, 0), in(0, 0), api.ErrInvalid},
		{list(1, 0, 0, MaxNumber+1), in(0, 0), api.ErrRange},
		{slices.Repeat(list(1, 2), MaxList), in(MaxList, 2*MaxList), api.OK},
		{slices.Repeat(list(MaxNumber, MaxNumber), MaxList), in(0, 0), api.ErrRange},
		{slices.Repeat(list(-MaxNumber, -MaxNumber, MaxNumber, MaxNumber), MaxList/2), in(0, 0), api.OK},
		{slices.Repeat(list(1, 2), MaxList+1), in(0, 0), api.ErrTooMany},
		{slices.Repeat(list(2, 1, 0, MaxNumber+1), MaxList), in(0, 0), api.ErrTooMany},
	} {
		if got, e := Sum(c.list); got != c.want || e != c.code {
			t.Errorf("Sum of %d intervals = %v, %d, want %v, %d", len(c.list), got, e, c.want, c.code)
		}
	}
}

func TestIntersectAndHull(t *testing.T) {
	for alo := -3; alo <= 3; alo++ {
		for ahi := alo; ahi <= 3; ahi++ {
			for blo := -3; blo <= 3; blo++ {
				for bhi := blo; bhi <= 3; bhi++ {
					checkMeeting(t, in(alo, ahi), in(blo, bhi))
				}
			}
		}
	}
}

func checkMeeting(t *testing.T, a, b api.Interval) {
	var common []int
	for n := a.Lo; n <= a.Hi; n++ {
		if n >= b.Lo && n <= b.Hi {
			common = append(common, n)
		}
	}
	want, code := in(0, 0), api.ErrNone
	if len(common) > 0 {
		want, code = in(common[0], common[len(common)-1]), api.OK
	}
	if got, e := Intersect(a, b); got != want || e != code {
		t.Errorf("Intersect(%v, %v) = %v, %d", a, b, got, e)
	}
	ends := []int{a.Lo, a.Hi, b.Lo, b.Hi}
	if got, e := Hull(a, b); got != in(slices.Min(ends), slices.Max(ends)) || e != api.OK {
		t.Errorf("Hull(%v, %v) = %v, %d", a, b, got, e)
	}
}

// set is a model of a set of numbers, by which the lists are judged.
type set map[int]bool

func setOf(lists ...[]api.Interval) set {
	out := set{}
	for _, l := range lists {
		for _, a := range l {
			for n := a.Lo; n <= a.Hi; n++ {
				out[n] = true
			}
		}
	}
	return out
}

func (s set) filter(keep func(n int) bool) set {
	out := set{}
	for n := range s {
		if keep(n) {
			out[n] = true
		}
	}
	return out
}

func (s set) normal() []api.Interval {
	var out []api.Interval
	for n := range s {
		if s[n-1] {
			continue
		}
		hi := n
		for s[hi+1] {
			hi++
		}
		out = append(out, in(n, hi))
	}
	slices.SortFunc(out, func(a, b api.Interval) int { return a.Lo - b.Lo })
	return out
}

func checkSets(t *testing.T, a, b []api.Interval) {
	t.Helper()
	oldA, oldB := slices.Clone(a), slices.Clone(b)
	inA, inB := setOf(a), setOf(b)
	equals := func(name string, got []api.Interval, e api.Errno, want set) {
		t.Helper()
		if e != api.OK || !slices.Equal(got, want.normal()) {
			t.Errorf("%s of %v and %v: %v, %d, want %v", name, a, b, got, e, want.normal())
		}
		for i := range got {
			got[i] = in(77, 78)
		}
	}
	got, e := Normalize(a)
	equals("Normalize", got, e, inA)
	got, e = Union(a, b)
	equals("Union", got, e, setOf(a, b))
	got, e = Minus(a, b)
	equals("Minus", got, e, inA.filter(func(n int) bool { return !inB[n] }))
	got, e = Common(a, b)
	equals("Common", got, e, inA.filter(func(n int) bool { return inB[n] }))
	if n, e := Count(a); n != len(inA) || e != api.OK {
		t.Errorf("Count of %v: %d, %d", a, n, e)
	}
	if !slices.Equal(a, oldA) || !slices.Equal(b, oldB) {
		t.Errorf("an argument is changed, or shares memory with a result: %v, %v", oldA, oldB)
	}
}

// everyList returns all lists of up to two intervals with ends from 0 to top.
func everyList(top int) [][]api.Interval {
	out := [][]api.Interval{nil, {}}
	var single []api.Interval
	for lo := range top + 1 {
		for hi := lo; hi <= top; hi++ {
			single = append(single, in(lo, hi))
		}
	}
	for _, a := range single {
		out = append(out, []api.Interval{a})
		for _, b := range single {
			out = append(out, []api.Interval{a, b})
		}
	}
	return out
}

func TestSmallSets(t *testing.T) {
	lists := everyList(4)
	for _, a := range lists {
		for _, b := range lists {
			checkSets(t, a, b)
		}
	}
}

// draw returns numbers that look random and are the same in every run.
func draw(seed uint64) func(below int) int {
	return func(below int) int {
		seed = seed*6364136223846793005 + 1442695040888963407
		return int(seed>>33) % below
	}
}

func drawList(next func(below int) int) []api.Interval {
	var out []api.Interval
	for range next(30) {
		lo := next(120) - 60
		out = append(out, in(lo, lo+next(6)))
	}
	return out
}

func TestLargerSets(t *testing.T) {
	next := draw(1)
	for range 2000 {
		checkSets(t, drawList(next), drawList(next))
	}
}

func TestConsequences(t *testing.T) {
	next := draw(2)
	for range 1000 {
		a, b := drawList(next), drawList(next)
		union, _ := Union(a, b)
		minus, _ := Minus(a, b)
		common, _ := Common(a, b)
		whole, _ := Union(minus, common)
		normal, _ := Normalize(a)
		if !slices.Equal(whole, normal) {
			t.Fatalf("Minus and Common of %v and %v do not make up the first", a, b)
		}
		countUnion, _ := Count(union)
		countA, _ := Count(a)
		countB, _ := Count(b)
		countCommon, _ := Count(common)
		if countUnion != countA+countB-countCommon {
			t.Fatalf("counts of %v and %v", a, b)
		}
		shuffled := slices.Clone(a)
		for i := range shuffled {
			k := next(i + 1)
			shuffled[i], shuffled[k] = shuffled[k], shuffled[i]
		}
		again, _ := Normalize(shuffled)
		sum, _ := Sum(a)
		sumAgain, _ := Sum(shuffled)
		if !slices.Equal(again, normal) || sum != sumAgain {
			t.Fatalf("the order of %v matters", a)
		}
		checkSumOfNumbers(t, a, sum, next)
	}
}

func checkSumOfNumbers(t *testing.T, list []api.Interval, sum api.Interval, next func(below int) int) {
	lo, hi, some := 0, 0, 0
	for _, a := range list {
		lo += a.Lo
		hi += a.Hi
		some += a.Lo + next(Length(a))
	}
	if sum != in(lo, hi) || !Contains(sum, some) {
		t.Fatalf("Sum of %v: %v", list, sum)
	}
}

func TestSetsAtTheEndsOfTheRange(t *testing.T) {
	whole := list(-MaxNumber, MaxNumber)
	equals := func(name string, got []api.Interval, e api.Errno, want []api.Interval) {
		if e != api.OK || !slices.Equal(got, want) {
			t.Errorf("%s: %v, %d, want %v", name, got, e, want)
		}
	}
	got, e := Normalize(list(1, MaxNumber, MaxNumber, MaxNumber, -MaxNumber, -1, -MaxNumber, -MaxNumber))
	equals("Normalize", got, e, list(-MaxNumber, -1, 1, MaxNumber))
	got, e = Union(list(0, MaxNumber), list(-MaxNumber, -1))
	equals("Union", got, e, whole)
	got, e = Minus(whole, nil)
	equals("Minus of nothing", got, e, whole)
	got, e = Minus(whole, whole)
	equals("Minus of all", got, e, nil)
	got, e = Minus(whole, list(-MaxNumber, -MaxNumber, MaxNumber, MaxNumber))
	equals("Minus of the ends", got, e, list(1-MaxNumber, MaxNumber-1))
	got, e = Minus(whole, list(-MaxNumber, MaxNumber-1))
	equals("Minus of all but the last", got, e, list(MaxNumber, MaxNumber))
	got, e = Minus(whole, list(1-MaxNumber, MaxNumber))
	equals("Minus of all but the first", got, e, list(-MaxNumber, -MaxNumber))
	got, e = Minus(whole, list(0, 0))
	equals("Minus of the middle", got, e, list(-MaxNumber, -1, 1, MaxNumber))
	got, e = Common(whole, list(-MaxNumber, -MaxNumber, MaxNumber, MaxNumber))
	equals("Common", got, e, list(-MaxNumber, -MaxNumber, MaxNumber, MaxNumber))
	if n, e := Count(list(-MaxNumber, 5, 0, MaxNumber)); n != 2*MaxNumber+1 || e != api.OK {
		t.Errorf("Count of all: %d, %d", n, e)
	}
}

type listFunction struct {
	name string
	call func(a, b []api.Interval) (int, api.Errno)
}

// listFunctions returns the functions of two lists, and those of one list called for the first one; the number is the size of the result.
func listFunctions(both bool) []listFunction {
	size := func(f func(a, b []api.Interval) ([]api.Interval, api.Errno)) func(a, b []api.Interval) (int, api.Errno) {
		return func(a, b []api.Interval) (int, api.Errno) {
			got, e := f(a, b)
			return len(got), e
		}
	}
	out := []listFunction{{"Union", size(Union)}, {"Minus", size(Minus)}, {"Common", size(Common)}}
	if both {
		return out
	}
	return append(out,
		listFunction{"Normalize", size(func(a, b []api.Interval) ([]api.Interval, api.Errno) { return Normalize(a) })},
		listFunction{"Count", func(a, b []api.Interval) (int, api.Errno) { return Count(a) }})
}

func TestErrorsOfLists(t *testing.T) {
	long := slices.Repeat(list(1, 2), MaxList+1)
	full := slices.Repeat(list(1, 2), MaxList)
	invalid, outside := list(1, 2, 2, 1), list(1, 2, 0, MaxNumber+1)
	for _, c := range []struct {
		a, b []api.Interval
		both bool
		want api.Errno
	}{
		{full, nil, false, api.OK},
		{full, full, true, api.OK},
		{long, nil, false, api.ErrTooMany},
		{slices.Concat(outside, invalid, full), nil, false, api.ErrTooMany},
		{nil, long, true, api.ErrTooMany},
		{outside, long, true, api.ErrTooMany},
		{outside, nil, false, api.ErrRange},
		{nil, outside, true, api.ErrRange},
		{slices.Concat(invalid, outside), nil, false, api.ErrRange},
		{invalid, outside, true, api.ErrRange},
		{outside, invalid, true, api.ErrRange},
		{invalid, nil, false, api.ErrInvalid},
		{nil, invalid, true, api.ErrInvalid},
	} {
		for _, f := range listFunctions(c.both) {
			if n, e := f.call(c.a, c.b); e != c.want || e != api.OK && n != 0 {
				t.Errorf("%s of %d and %d intervals: %d, want %d", f.name, len(c.a), len(c.b), e, c.want)
			}
		}
	}
	for _, c := range rejected {
		for _, f := range listFunctions(false) {
			if n, e := f.call([]api.Interval{in(0, 0), c.a}, nil); e != c.want || n != 0 {
				t.Errorf("%s with %v: %d, want %d", f.name, c.a, e, c.want)
			}
		}
	}
}

func TestLongestLists(t *testing.T) {
	var even, odd []api.Interval
	for i := range MaxList {
		even = append(even, in(4*(MaxList-i), 4*(MaxList-i)))
		odd = append(odd, in(4*i+2, 4*i+2))
	}
	union, e := Union(even, odd)
	if e != api.OK || len(union) != 2*MaxList || !slices.IsSortedFunc(union, func(a, b api.Interval) int { return a.Lo - b.Lo }) {
		t.Errorf("Union of lists without common numbers: %d intervals, %d", len(union), e)
	}
	minus, e := Minus(list(0, 4*MaxList), even)
	if e != api.OK || len(minus) != MaxList || minus[0] != in(0, 3) {
		t.Errorf("Minus of single numbers: %d intervals, %d", len(minus), e)
	}
}
