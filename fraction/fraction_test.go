package fraction

import (
	"math"
	"math/big"
	"regexp"
	"strconv"
	"strings"
	"testing"

	"gangsaw/api"
)

const most = Bound - 1

func frac(num, den int64) api.Frac { return api.Frac{Num: num, Den: den} }

func rat(f api.Frac) *big.Rat { return big.NewRat(f.Num, f.Den) }

// lowest returns the fraction of a rational number by the definition of the chapter.
func lowest(r *big.Rat) (api.Frac, api.Errno) {
	bound := big.NewInt(Bound)
	if r.Num().CmpAbs(bound) >= 0 || r.Denom().CmpAbs(bound) >= 0 {
		return api.Frac{}, api.ErrRange
	}
	return frac(r.Num().Int64(), r.Denom().Int64()), api.OK
}

func isFraction(f api.Frac) bool {
	if f.Den < 1 || f.Den > most || f.Num < -most || f.Num > most {
		return false
	}
	return rat(f).Num().Int64() == f.Num && rat(f).Denom().Int64() == f.Den
}

// numbers has the ends of all ranges, what lies just beside them, and some between them.
var numbers = []int64{
	math.MinInt64, math.MinInt64 + 1, -Bound - 1, -Bound, -most, 1 - most, -999999937, -6, -3, -2, -1,
	0, 1, 2, 3, 4, 6, 999999937, 1 << 59, Bound / 2, most / 9, most - 1, most, Bound, Bound + 1, math.MaxInt64,
}

// everyFrac returns the pairs of numbers, most of which are no fractions.
func everyFrac() []api.Frac {
	var out []api.Frac
	for _, num := range numbers {
		for _, den := range numbers {
			out = append(out, frac(num, den))
		}
	}
	return out
}

// wrong has values that are no fractions, one for each reason.
var wrong = []api.Frac{
	{}, {Num: 1}, {Num: 1, Den: -2}, {Num: -1, Den: -2}, {Num: 2, Den: 4}, {Num: -3, Den: 3}, {Num: 0, Den: 2}, {Num: 0, Den: -1},
	{Num: Bound, Den: 1}, {Num: -Bound, Den: 1}, {Num: 1, Den: Bound}, {Num: Bound, Den: Bound},
	{Num: math.MinInt64, Den: 1}, {Num: math.MaxInt64, Den: 1}, {Num: 1, Den: math.MaxInt64}, {Num: 1, Den: math.MinInt64}, {Num: math.MinInt64, Den: math.MinInt64},
}

// draw returns numbers that look random and are the same in every run.
func draw(seed uint64) func(below int64) int64 {
	return func(below int64) int64 {
		seed = seed*6364136223846793005 + 1442695040888963407
		high := seed >> 32
		seed = seed*6364136223846793005 + 1442695040888963407
		return int64((high<<31 | seed>>33) % uint64(below))
	}
}

// drawFrac returns fractions whose numbers have any size up to size.
func drawFrac(next func(below int64) int64, size int64) api.Frac {
	number := func() int64 {
		sizes := []int64{2, 10, 1000, 1000000, 3000000000, most}
		return next(min(sizes[next(6)], size)) + 1
	}
	num, den := number(), number()
	if next(2) == 0 {
		num = -num
	}
	r := big.NewRat(num, den)
	return frac(r.Num().Int64(), r.Denom().Int64())
}

func TestValid(t *testing.T) {
	for _, f := range everyFrac() {
		if got := Valid(f); got != isFraction(f) {
			t.Errorf("Valid(%v) = %v", f, got)
		}
	}
	for _, f := range wrong {
		if Valid(f) {
			t.Errorf("Valid(%v) = true", f)
		}
	}
	for num := int64(-30); num <= 30; num++ {
		for den := int64(-3); den <= 30; den++ {
			if got := Valid(frac(num, den)); got != isFraction(frac(num, den)) {
				t.Errorf("Valid(%d/%d) = %v", num, den, got)
			}
		}
	}
	for _, f := range []api.Frac{frac(0, 1), frac(most, 1), frac(-most, 1), frac(1, most), frac(most, most-1), frac(1-most, most)} {
		if !Valid(f) {
			t.Errorf("Valid(%v) = false", f)
		}
	}
}

func TestNew(t *testing.T) {
	for _, c := range []struct {
		num, den int64
		want     api.Frac
		code     api.Errno
	}{
		{6, -4, frac(-3, 2), api.OK},
		{5, 2, frac(5, 2), api.OK},
		{0, -7, frac(0, 1), api.OK},
		{0, math.MinInt64, frac(0, 1), api.OK},
		{math.MinInt64, math.MinInt64, frac(1, 1), api.OK},
		{math.MaxInt64, -math.MaxInt64, frac(-1, 1), api.OK},
		{math.MinInt64, 16, frac(-1<<59, 1), api.OK},
		{math.MinInt64, -16, frac(1<<59, 1), api.OK},
		{-16, math.MinInt64, frac(1, 1<<59), api.OK},
		{math.MinInt64, 8, frac(0, 0), api.ErrRange},
		{8, math.MinInt64, frac(0, 0), api.ErrRange},
		{most, 1, frac(most, 1), api.OK},
		{Bound, 1, frac(0, 0), api.ErrRange},
		{-Bound, 1, frac(0, 0), api.ErrRange},
		{Bound, 2, frac(Bound/2, 1), api.OK},
		{1, most, frac(1, most), api.OK},
		{1, Bound, frac(0, 0), api.ErrRange},
		{-2, Bound, frac(-1, Bound/2), api.OK},
		{1, -Bound, frac(0, 0), api.ErrRange},
		{1, 0, frac(0, 0), api.ErrInvalid},
		{0, 0, frac(0, 0), api.ErrInvalid},
		{Bound, 0, frac(0, 0), api.ErrInvalid},
		{math.MinInt64, 0, frac(0, 0), api.ErrInvalid},
	} {
		if f, e := New(c.num, c.den); f != c.want || e != c.code {
			t.Errorf("New(%d, %d) = %v, %d, want %v, %d", c.num, c.den, f, e, c.want, c.code)
		}
	}
	for _, f := range everyFrac() {
		if f.Den == 0 {
			continue
		}
		want, code := lowest(rat(f))
		if got, e := New(f.Num, f.Den); got != want || e != code {
			t.Errorf("New(%d, %d) = %v, %d, want %v, %d", f.Num, f.Den, got, e, want, code)
		}
	}
}

type operation struct {
	name  string
	call  func(a, b api.Frac) (api.Frac, api.Errno)
	exact func(a, b *big.Rat) *big.Rat
}

func operations() []operation {
	return []operation{
		{"Add", Add, func(a, b *big.Rat) *big.Rat { return new(big.Rat).Add(a, b) }},
		{"Sub", Sub, func(a, b *big.Rat) *big.Rat { return new(big.Rat).Sub(a, b) }},
		{"Mul", Mul, func(a, b *big.Rat) *big.Rat { return new(big.Rat).Mul(a, b) }},
		{"Div", Div, func(a, b *big.Rat) *big.Rat { return new(big.Rat).Quo(a, b) }},
	}
}

// checkOperations compares all operations and Cmp with exact arithmetic, for fractions only.
func checkOperations(t *testing.T, a, b api.Frac) {
	t.Helper()
	for _, o := range operations() {
		want, code := frac(0, 0), api.ErrInvalid
		if o.name != "Div" || b.Num != 0 {
			want, code = lowest(o.exact(rat(a), rat(b)))
		}
		if got, e := o.call(a, b); got != want || e != code {
			t.Errorf("%s(%v, %v) = %v, %d, want %v, %d", o.name, a, b, got, e, want, code)
		}
	}
	if got := Cmp(a, b); got != rat(a).Cmp(rat(b)) {
		t.Errorf("Cmp(%v, %v) = %d", a, b, got)
	}
}

func TestOperationsAtTheEnds(t *testing.T) {
	var fractions []api.Frac
	for _, f := range everyFrac() {
		if isFraction(f) {
			fractions = append(fractions, f)
		}
	}
	for _, a := range fractions {
		for _, b := range fractions {
			checkOperations(t, a, b)
		}
	}
}

func TestOperations(t *testing.T) {
	next := draw(1)
	for range 20000 {
		checkOperations(t, drawFrac(next, most), drawFrac(next, most))
	}
	for range 5000 {
		// Two fractions with a common part of their denominators, whose sum can be reduced.
		common := next(1000000000) + 1
		a, _ := New(next(most)-most/2, common*(next(1000)+1))
		b, _ := New(next(most)-most/2, common*(next(1000)+1))
		checkOperations(t, a, b)
	}
}

func TestOperationsOfExamples(t *testing.T) {
	for _, c := range []struct {
		name string
		call func(a, b api.Frac) (api.Frac, api.Errno)
		a, b api.Frac
		want api.Frac
		code api.Errno
	}{
		{"Add", Add, frac(1, 3), frac(1, 6), frac(1, 2), api.OK},
		{"Div", Div, frac(1, 3), frac(2, 3), frac(1, 2), api.OK},
		{"Sub", Sub, frac(1, 6), frac(1, 3), frac(-1, 6), api.OK},
		{"Sub", Sub, frac(5, 7), frac(5, 7), frac(0, 1), api.OK},
		{"Mul", Mul, frac(-2, 3), frac(9, 4), frac(-3, 2), api.OK},
		{"Mul", Mul, frac(0, 1), frac(-1, 7), frac(0, 1), api.OK},
		{"Div", Div, frac(0, 1), frac(-1, 7), frac(0, 1), api.OK},
		{"Div", Div, frac(1, 2), frac(-1, 3), frac(-3, 2), api.OK},
		{"Add", Add, frac(most-1, 1), frac(1, 1), frac(most, 1), api.OK},
		{"Add", Add, frac(most, 1), frac(1, 1), frac(0, 0), api.ErrRange},
		{"Sub", Sub, frac(1-most, 1), frac(1, 1), frac(-most, 1), api.OK},
		{"Sub", Sub, frac(-most, 1), frac(1, 1), frac(0, 0), api.ErrRange},
		{"Add", Add, frac(most, 1), frac(-most, 1), frac(0, 1), api.OK},
		{"Add", Add, frac(1, most), frac(1, most-1), frac(0, 0), api.ErrRange},
		{"Add", Add, frac(1, 999999999), frac(1, 1000000001), frac(2000000000, most), api.OK},
		{"Add", Add, frac(1, 1000000000), frac(1, 1000000001), frac(0, 0), api.ErrRange},
		{"Mul", Mul, frac(999999999, 1), frac(1000000001, 1), frac(most, 1), api.OK},
		{"Mul", Mul, frac(1000000000, 1), frac(1000000000, 1), frac(0, 0), api.ErrRange},
		{"Mul", Mul, frac(1, 1000000000), frac(1, 1000000000), frac(0, 0), api.ErrRange},
		{"Mul", Mul, frac(most, most-1), frac(most-1, most), frac(1, 1), api.OK},
		{"Div", Div, frac(1, 999999999), frac(1000000001, 1), frac(1, most), api.OK},
		{"Div", Div, frac(1, 999999999), frac(-1000000003, 1), frac(0, 0), api.ErrRange},
		{"Div", Div, frac(1, 1), frac(-1, most), frac(-most, 1), api.OK},
	} {
		if got, e := c.call(c.a, c.b); got != c.want || e != c.code {
			t.Errorf("%s(%v, %v) = %v, %d, want %v, %d", c.name, c.a, c.b, got, e, c.want, c.code)
		}
	}
}

func TestNoFractions(t *testing.T) {
	good := []api.Frac{frac(0, 1), frac(1, 1), frac(-2, 3), frac(most, 1)}
	two := append(operations(), operation{name: "Simplest", call: Simplest})
	for _, o := range two {
		refuse := func(a, b api.Frac) {
			if got, e := o.call(a, b); got != frac(0, 0) || e != api.ErrInvalid {
				t.Errorf("%s(%v, %v) = %v, %d", o.name, a, b, got, e)
			}
			if n := Cmp(a, b); n != 0 {
				t.Errorf("Cmp(%v, %v) = %d", a, b, n)
			}
		}
		for _, f := range wrong {
			for _, g := range good {
				refuse(f, g)
				refuse(g, f)
			}
			for _, g := range wrong {
				refuse(f, g)
			}
		}
	}
	for _, f := range wrong {
		if Floor(f) != 0 || Round(f) != 0 {
			t.Errorf("%v: Floor %d, Round %d", f, Floor(f), Round(f))
		}
		if s, e := Text(f); s != "" || e != api.ErrInvalid {
			t.Errorf("Text(%v) = %q, %d", f, s, e)
		}
		for _, n := range []int{math.MinInt, -1, 0, 1, 64, 65, math.MaxInt} {
			if got, e := Power(f, n); got != frac(0, 0) || e != api.ErrInvalid {
				t.Errorf("Power(%v, %d) = %v, %d", f, n, got, e)
			}
		}
	}
}

func TestDivisionByZero(t *testing.T) {
	for _, a := range []api.Frac{frac(0, 1), frac(1, 1), frac(-most, 1), frac(1, most)} {
		if got, e := Div(a, frac(0, 1)); got != frac(0, 0) || e != api.ErrInvalid {
			t.Errorf("Div(%v, 0) = %v, %d", a, got, e)
		}
	}
}

// TestAllArguments calls every function with all kinds of arguments, and looks only at what is promised for all of them.
func TestAllArguments(t *testing.T) {
	all := everyFrac()
	for _, a := range all {
		checkAlone(t, a)
		for _, b := range all {
			for _, o := range operations() {
				got, e := o.call(a, b)
				if e == api.OK && !isFraction(got) || e != api.OK && got != frac(0, 0) {
					t.Fatalf("%s(%v, %v) = %v, %d", o.name, a, b, got, e)
				}
			}
			if got, e := Simplest(a, b); e == api.OK && !isFraction(got) || e != api.OK && got != frac(0, 0) {
				t.Fatalf("Simplest(%v, %v) = %v, %d", a, b, got, e)
			}
			if n := Cmp(a, b); n != -Cmp(b, a) {
				t.Fatalf("Cmp(%v, %v) = %d", a, b, n)
			}
		}
	}
}

func checkAlone(t *testing.T, a api.Frac) {
	if !isFraction(a) && (Floor(a) != 0 || Round(a) != 0) {
		t.Errorf("%v: Floor %d, Round %d", a, Floor(a), Round(a))
	}
	if s, e := Text(a); isFraction(a) != (e == api.OK) || (e == api.OK) != (s != "") {
		t.Errorf("Text(%v) = %q, %d", a, s, e)
	}
	for _, n := range []int{math.MinInt, -1, 65, math.MaxInt} {
		if got, e := Power(a, n); got != frac(0, 0) || e != api.ErrInvalid {
			t.Errorf("Power(%v, %d) = %v, %d", a, n, got, e)
		}
	}
}

func TestPower(t *testing.T) {
	for _, c := range []struct {
		a    api.Frac
		n    int
		want api.Frac
		code api.Errno
	}{
		{frac(2, 3), 3, frac(8, 27), api.OK},
		{frac(-2, 3), 3, frac(-8, 27), api.OK},
		{frac(-2, 3), 2, frac(4, 9), api.OK},
		{frac(2, 3), 0, frac(1, 1), api.OK},
		{frac(0, 1), 0, frac(1, 1), api.OK},
		{frac(most, 1), 0, frac(1, 1), api.OK},
		{frac(-most, 1), 1, frac(-most, 1), api.OK},
		{frac(1, most), 1, frac(1, most), api.OK},
		{frac(most, 1), 2, frac(0, 0), api.ErrRange},
		{frac(1, most), 2, frac(0, 0), api.ErrRange},
		{frac(0, 1), 1, frac(0, 1), api.OK},
		{frac(0, 1), 64, frac(0, 1), api.OK},
		{frac(1, 1), 64, frac(1, 1), api.OK},
		{frac(-1, 1), 64, frac(1, 1), api.OK},
		{frac(-1, 1), 63, frac(-1, 1), api.OK},
		{frac(2, 1), 59, frac(1<<59, 1), api.OK},
		{frac(2, 1), 60, frac(0, 0), api.ErrRange},
		{frac(-2, 1), 59, frac(-1<<59, 1), api.OK},
		{frac(1, 2), 59, frac(1, 1<<59), api.OK},
		{frac(1, 2), 60, frac(0, 0), api.ErrRange},
		{frac(1, 2), 64, frac(0, 0), api.ErrRange},
		{frac(10, 1), 17, frac(Bound/10, 1), api.OK},
		{frac(10, 1), 18, frac(0, 0), api.ErrRange},
		{frac(999999999, 1), 2, frac(999999998000000001, 1), api.OK},
		{frac(1000000000, 999999999), 2, frac(0, 0), api.ErrRange},
		{frac(2, 1), 65, frac(0, 0), api.ErrInvalid},
		{frac(1, 1), 65, frac(0, 0), api.ErrInvalid},
		{frac(1, 1), -1, frac(0, 0), api.ErrInvalid},
		{frac(0, 1), math.MinInt, frac(0, 0), api.ErrInvalid},
		{frac(1, 1), math.MaxInt, frac(0, 0), api.ErrInvalid},
	} {
		if got, e := Power(c.a, c.n); got != c.want || e != c.code {
			t.Errorf("Power(%v, %d) = %v, %d, want %v, %d", c.a, c.n, got, e, c.want, c.code)
		}
	}
}

func TestPowersAreProducts(t *testing.T) {
	next := draw(2)
	for range 500 {
		a := drawFrac(next, 1000000)
		product := big.NewRat(1, 1)
		for n := range 65 {
			want, code := lowest(product)
			if got, e := Power(a, n); got != want || e != code {
				t.Fatalf("Power(%v, %d) = %v, %d, want %v, %d", a, n, got, e, want, code)
			}
			product.Mul(product, rat(a))
		}
	}
}

func TestFloorAndRound(t *testing.T) {
	for _, c := range []struct {
		a            api.Frac
		floor, round int64
	}{
		{frac(-3, 2), -2, -2},
		{frac(5, 2), 2, 3},
		{frac(3, 2), 1, 2},
		{frac(1, 2), 0, 1},
		{frac(-1, 2), -1, -1},
		{frac(-5, 2), -3, -3},
		{frac(1, 3), 0, 0},
		{frac(2, 3), 0, 1},
		{frac(-1, 3), -1, 0},
		{frac(-2, 3), -1, -1},
		{frac(0, 1), 0, 0},
		{frac(7, 1), 7, 7},
		{frac(-7, 1), -7, -7},
		{frac(most, 1), most, most},
		{frac(-most, 1), -most, -most},
		{frac(most, 2), Bound/2 - 1, Bound / 2},
		{frac(-most, 2), -Bound / 2, -Bound / 2},
		{frac(most, most-1), 1, 1},
		{frac(-most, most-1), -2, -1},
		{frac(1, most), 0, 0},
		{frac(-1, most), -1, 0},
		{frac(Bound/2, most), 0, 1},
		{frac(Bound/2-1, most), 0, 0},
		{frac(-Bound/2, most), -1, -1},
		{frac(1-Bound/2, most), -1, 0},
		{frac(most-1, most), 0, 1},
		{frac(1-most, most), -1, -1},
	} {
		if floor, round := Floor(c.a), Round(c.a); floor != c.floor || round != c.round {
			t.Errorf("%v: Floor %d, Round %d, want %d and %d", c.a, floor, round, c.floor, c.round)
		}
	}
}

// TestFloorAndRoundByTheirDefinitions multiplies the results back.
func TestFloorAndRoundByTheirDefinitions(t *testing.T) {
	next := draw(3)
	for range 5000 {
		a := drawFrac(next, most)
		behind := new(big.Rat).Sub(rat(a), new(big.Rat).SetInt64(Floor(a)))
		if behind.Sign() < 0 || behind.Cmp(big.NewRat(1, 1)) >= 0 {
			t.Fatalf("Floor(%v) = %d", a, Floor(a))
		}
		beside := new(big.Rat).Sub(new(big.Rat).SetInt64(Round(a)), rat(a))
		half := new(big.Rat).Abs(beside).Cmp(big.NewRat(1, 2))
		if half > 0 || half == 0 && beside.Sign() != rat(a).Sign() {
			t.Fatalf("Round(%v) = %d", a, Round(a))
		}
	}
}

// smallFractions returns the fractions with small numbers in no order of size.
func smallFractions(num, den int64) []api.Frac {
	var out []api.Frac
	for d := int64(1); d <= den; d++ {
		for n := -num; n <= num; n++ {
			if isFraction(frac(n, d)) {
				out = append(out, frac(n, d))
			}
		}
	}
	return out
}

// simplestModel looks through all fractions from the simplest one on.
func simplestModel(a, b api.Frac) api.Frac {
	for den := int64(1); ; den++ {
		for size := int64(0); size <= 100*den; size++ {
			for _, num := range []int64{size, -size} {
				r := big.NewRat(num, den)
				if r.Cmp(rat(a)) >= 0 && r.Cmp(rat(b)) <= 0 {
					return frac(num, den)
				}
			}
		}
	}
}

func TestSimplestOfSmallFractions(t *testing.T) {
	small := smallFractions(8, 6)
	for _, a := range small {
		for _, b := range small {
			want, code := frac(0, 0), api.ErrInvalid
			if rat(a).Cmp(rat(b)) <= 0 {
				want, code = simplestModel(a, b), api.OK
			}
			if got, e := Simplest(a, b); got != want || e != code {
				t.Errorf("Simplest(%v, %v) = %v, %d, want %v, %d", a, b, got, e, want, code)
			}
		}
	}
}

func TestSimplestOfExamples(t *testing.T) {
	for _, c := range []struct {
		a, b, want api.Frac
		code       api.Errno
	}{
		{frac(3, 10), frac(2, 5), frac(1, 3), api.OK},
		{frac(9, 10), frac(11, 10), frac(1, 1), api.OK},
		{frac(-7, 2), frac(-3, 2), frac(-2, 1), api.OK},
		{frac(-1, 1), frac(5, 1), frac(0, 1), api.OK},
		{frac(-1, 7), frac(0, 1), frac(0, 1), api.OK},
		{frac(0, 1), frac(1, 7), frac(0, 1), api.OK},
		{frac(-5, 1), frac(-1, 1), frac(-1, 1), api.OK},
		{frac(1, 1), frac(5, 1), frac(1, 1), api.OK},
		{frac(3, 2), frac(2, 1), frac(2, 1), api.OK},
		{frac(2, 1), frac(5, 2), frac(2, 1), api.OK},
		{frac(2, 5), frac(1, 2), frac(1, 2), api.OK},
		{frac(1, 2), frac(3, 5), frac(1, 2), api.OK},
		{frac(157, 50), frac(63, 20), frac(22, 7), api.OK},
		{frac(-63, 20), frac(-157, 50), frac(-22, 7), api.OK},
		{frac(-most, 1), frac(most, 1), frac(0, 1), api.OK},
		{frac(most, 1), frac(most, 1), frac(most, 1), api.OK},
		{frac(1, most), frac(1, most), frac(1, most), api.OK},
		{frac(1, most), frac(1, most-1), frac(1, most-1), api.OK},
		{frac(most-1, most), frac(1, 1), frac(1, 1), api.OK},
		{frac(most-2, most-1), frac(most-1, most), frac(most-2, most-1), api.OK},
		{frac(-most, most-1), frac(-1, 1), frac(-1, 1), api.OK},
		{frac(2, 5), frac(3, 10), frac(0, 0), api.ErrInvalid},
		{frac(1, most-1), frac(1, most), frac(0, 0), api.ErrInvalid},
		{frac(1, 1), frac(-1, 1), frac(0, 0), api.ErrInvalid},
	} {
		if got, e := Simplest(c.a, c.b); got != c.want || e != c.code {
			t.Errorf("Simplest(%v, %v) = %v, %d, want %v, %d", c.a, c.b, got, e, c.want, c.code)
		}
	}
}

// neighbours returns the next rational numbers below and above f = p/q (q at least 2) with a lesser denominator: all numbers between them have a denominator of at least q, and f alone has q.
func neighbours(f api.Frac) (*big.Rat, *big.Rat) {
	p, q := big.NewInt(f.Num), big.NewInt(f.Den)
	v := new(big.Int).ModInverse(p, q)
	u := new(big.Int).Mul(p, v)
	u.Sub(u, big.NewInt(1)).Div(u, q)
	below := new(big.Rat).SetFrac(u, v)
	above := new(big.Rat).SetFrac(new(big.Int).Sub(p, u), new(big.Int).Sub(q, v))
	return below, above
}

// checkSimplest proves the result for a and b of one sign, a at most b, by its neighbours.
func checkSimplest(t *testing.T, a, b api.Frac) {
	t.Helper()
	got, e := Simplest(a, b)
	if e != api.OK || !isFraction(got) || rat(got).Cmp(rat(a)) < 0 || rat(got).Cmp(rat(b)) > 0 {
		t.Fatalf("Simplest(%v, %v) = %v, %d", a, b, got, e)
	}
	var below, above *big.Rat
	if got.Den > 1 {
		below, above = neighbours(got)
	} else {
		// Of several integers the result is the one nearest to 0: beyond it there may be more only on the other side.
		below, above = big.NewRat(got.Num-1, 1), big.NewRat(got.Num+1, 1)
		if a.Num > 0 {
			above = new(big.Rat).Add(rat(b), big.NewRat(1, 1))
		} else {
			below = new(big.Rat).Sub(rat(a), big.NewRat(1, 1))
		}
	}
	if below.Cmp(rat(a)) >= 0 || above.Cmp(rat(b)) <= 0 {
		t.Fatalf("Simplest(%v, %v) = %v, but %v or %v is simpler", a, b, got, below, above)
	}
}

func TestSimplestOfLargerFractions(t *testing.T) {
	next := draw(4)
	for range 20000 {
		a := drawFrac(next, most)
		b, e := Add(a, frac(1, next(1000000)+1))
		if next(2) == 0 || e != api.OK {
			b = drawFrac(next, most)
		}
		if rat(a).Cmp(rat(b)) > 0 {
			a, b = b, a
		}
		if a.Num > 0 || b.Num < 0 {
			checkSimplest(t, a, b)
		}
	}
}

// TestSimplestOfCloseFractions uses the quotients of Fibonacci numbers, whose continued fractions are the longest ones.
func TestSimplestOfCloseFractions(t *testing.T) {
	older, newer := int64(1), int64(1)
	for older+newer < Bound {
		a, b := frac(newer, older), frac(older+newer, newer)
		if rat(a).Cmp(rat(b)) > 0 {
			a, b = b, a
		}
		checkSimplest(t, a, a)
		checkSimplest(t, a, b)
		checkSimplest(t, frac(-b.Num, b.Den), frac(-a.Num, a.Den))
		older, newer = newer, older+newer
	}
}

func TestTexts(t *testing.T) {
	for _, c := range []struct {
		f api.Frac
		s string
	}{
		{frac(0, 1), "0"},
		{frac(-3, 2), "-3/2"},
		{frac(3, 2), "3/2"},
		{frac(7, 1), "7"},
		{frac(-7, 1), "-7"},
		{frac(1, 10), "1/10"},
		{frac(most, 1), "999999999999999999"},
		{frac(-most, most-1), "-999999999999999999/999999999999999998"},
		{frac(1, most), "1/999999999999999999"},
	} {
		if s, e := Text(c.f); s != c.s || e != api.OK {
			t.Errorf("Text(%v) = %q, %d", c.f, s, e)
		}
		if f, e := Parse(c.s); f != c.f || e != api.OK {
			t.Errorf("Parse(%q) = %v, %d", c.s, f, e)
		}
	}
	next := draw(5)
	for range 5000 {
		f := drawFrac(next, most)
		s, e := Text(f)
		if want := strings.TrimSuffix(rat(f).String(), "/1"); s != want || e != api.OK {
			t.Fatalf("Text(%v) = %q, %d", f, s, e)
		}
		if back, e := Parse(s); back != f || e != api.OK {
			t.Fatalf("Parse(%q) = %v, %d", s, back, e)
		}
	}
}

func TestNoTexts(t *testing.T) {
	for _, s := range []string{
		"", "-", "/", "-/", "1/", "/2", "-/2", "2/4", "02", "1/1", "-1/1", "0/1", "0/2", "-0", "-0/1", "00", "-01", "+1", "+0", "1/02", "1/+2", "1/-2", "-1/-2",
		"1/0", "0/0", "4/2", "-6/4", "1//2", "1/2/3", "--1", "1-", "1/2-", " 1", "1 ", "1 /2", "1/ 2", "1\n", "1/2\x00", "\x001", "1_000", "1/1_0", "0x1", "0b1", "1e3", "1.5", "1,5", "1:2", "1\\2",
		"a", "-a", "1/a", "a/2", "½", "١", "１", "1∕2", "−1", "\xff", "1/\xff", "inf", "NaN",
		"1000000000000000000", "-1000000000000000000", "1/1000000000000000000", "1000000000000000000/3", "9223372036854775807", "-9223372036854775808", "9223372036854775808",
		"1/9223372036854775808", "18446744073709551617", "1/18446744073709551617", "0999999999999999999", "999999999999999999/999999999999999999",
		strings.Repeat("1", 100000), "1/" + strings.Repeat("3", 100000), strings.Repeat("0", 100000) + "1", strings.Repeat("/", 100000),
	} {
		if f, e := Parse(s); f != frac(0, 0) || e != api.ErrSyntax {
			t.Errorf("Parse of %q: %v, %d", s[:min(len(s), 40)], f, e)
		}
	}
}

// TestAllShortTexts compares Parse with the form of texts for all strings of a few bytes.
func TestAllShortTexts(t *testing.T) {
	form := regexp.MustCompile(`^(0|-?[1-9][0-9]*)(/[1-9][0-9]*)?$`)
	check := func(s string) {
		num, den, hasDen := strings.Cut(s, "/")
		want, code := frac(0, 0), api.ErrSyntax
		if form.MatchString(s) {
			f := frac(0, 1)
			f.Num, _ = strconv.ParseInt(num, 10, 64)
			if hasDen {
				f.Den, _ = strconv.ParseInt(den, 10, 64)
			}
			if isFraction(f) && (!hasDen || f.Den > 1) {
				want, code = f, api.OK
			}
		}
		if f, e := Parse(s); f != want || e != code {
			t.Errorf("Parse(%q) = %v, %d, want %v, %d", s, f, e, want, code)
		}
	}
	var extend func(s string)
	extend = func(s string) {
		check(s)
		if len(s) < 6 {
			for _, c := range "-+/01246" {
				extend(s + string(c))
			}
		}
	}
	extend("")
}

func TestLawsOfArithmetic(t *testing.T) {
	next := draw(6)
	zero, one := frac(0, 1), frac(1, 1)
	same := func(name string, x api.Frac, ex api.Errno, y api.Frac, ey api.Errno) {
		if x != y || ex != api.OK || ey != api.OK {
			t.Errorf("%s: %v, %d and %v, %d", name, x, ex, y, ey)
		}
	}
	// Denominators and numerators below 10000 keep all results of three of them in range.
	for range 5000 {
		a, b, c := drawFrac(next, 9999), drawFrac(next, 9999), drawFrac(next, 9999)
		sum, e := Add(a, b)
		swapped, f := Add(b, a)
		same("a + b = b + a", sum, e, swapped, f)
		product, e := Mul(a, b)
		swapped, f = Mul(b, a)
		same("a b = b a", product, e, swapped, f)
		back, e := Sub(sum, b)
		same("a + b - b = a", back, e, a, api.OK)
		back, e = Div(product, b)
		same("a b / b = a", back, e, a, api.OK)
		left, e := Add(sum, c)
		right, _ := Add(b, c)
		right, f = Add(a, right)
		same("(a + b) + c = a + (b + c)", left, e, right, f)
		left, e = Mul(product, c)
		right, _ = Mul(b, c)
		right, f = Mul(a, right)
		same("(a b) c = a (b c)", left, e, right, f)
		left, e = Mul(sum, c)
		first, _ := Mul(a, c)
		second, _ := Mul(b, c)
		right, f = Add(first, second)
		same("(a + b) c = a c + b c", left, e, right, f)
		left, e = Add(a, zero)
		right, f = Mul(a, one)
		same("a + 0 = a 1", left, e, right, f)
	}
}

func TestLawsOfOrder(t *testing.T) {
	small := smallFractions(6, 5)
	for _, a := range small {
		for _, b := range small {
			ab := Cmp(a, b)
			if ab != -Cmp(b, a) || (ab == 0) != (a == b) {
				t.Errorf("Cmp(%v, %v) = %d", a, b, ab)
			}
			for _, c := range small {
				if ab <= 0 && Cmp(b, c) <= 0 && Cmp(a, c) > 0 {
					t.Errorf("%v, %v, %v are not ordered", a, b, c)
				}
				left, _ := Add(a, c)
				right, _ := Add(b, c)
				if Cmp(left, right) != ab {
					t.Errorf("adding %v to %v and %v changes their order", c, a, b)
				}
			}
		}
	}
}

func TestLawsOfSimplest(t *testing.T) {
	next := draw(7)
	for range 5000 {
		a := drawFrac(next, most)
		if got, e := Simplest(a, a); got != a || e != api.OK {
			t.Fatalf("Simplest(%v, %v) = %v, %d", a, a, got, e)
		}
		ends := []api.Frac{a, drawFrac(next, 1000), drawFrac(next, 1000000), drawFrac(next, most)}
		for i := range ends {
			for k := range i {
				if rat(ends[k]).Cmp(rat(ends[i])) > 0 {
					ends[k], ends[i] = ends[i], ends[k]
				}
			}
		}
		inner, e := Simplest(ends[1], ends[2])
		outer, f := Simplest(ends[0], ends[3])
		if outer.Den > inner.Den || e != api.OK || f != api.OK {
			t.Fatalf("the simplest fraction between the ends of %v is %v, between the middle ones %v", ends, outer, inner)
		}
	}
}
