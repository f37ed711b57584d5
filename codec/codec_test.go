package codec

import (
	"fmt"
	"math"
	"math/big"
	"slices"
	"strings"
	"testing"

	"gangsaw/api"
)

// nested returns a value in depth lists.
func nested(v Value, depth int) Value {
	for range depth {
		v = Value{Kind: List, Items: []Value{v}}
	}
	return v
}

// knot returns a list that contains itself twice.
func knot() Value {
	v := Value{Kind: List, Items: make([]Value, 2)}
	v.Items[0], v.Items[1] = v, v
	return v
}

// doubled returns a tree of 2 to the power of levels leaves, in little memory.
func doubled(v Value, levels int) Value {
	for range levels {
		v = Value{Kind: List, Items: []Value{v, v}}
	}
	return v
}

func TestConstructors(t *testing.T) {
	for _, c := range []struct{ got, want Value }{
		{Num(0), Value{Kind: Number}},
		{Num(-7), Value{Kind: Number, N: -7}},
		{Str(""), Value{Kind: Text}},
		{Str("a\x00\xff"), Value{Kind: Text, S: "a\x00\xff"}},
		{Seq(), Value{Kind: List}},
		{Seq(nil...), Value{Kind: List}},
		{Seq(Num(1), Str("x")), Value{Kind: List, Items: []Value{{Kind: Number, N: 1}, {Kind: Text, S: "x"}}}},
	} {
		if c.got.Kind != c.want.Kind || c.got.N != c.want.N || c.got.S != c.want.S || fmt.Sprint(c.got) != fmt.Sprint(c.want) {
			t.Errorf("%v, want %v", c.got, c.want)
		}
	}
}

func TestSeqSharesNoMemory(t *testing.T) {
	inner := make([]Value, 1, 4)
	inner[0] = Num(1)
	spare := make([]Value, 0, 4)
	items := []Value{{Kind: List, Items: inner}, {Kind: List, Items: inner}, {Kind: List, Items: spare}}
	v := Seq(items...)
	inner[0] = Num(2)
	items[0] = Num(3)
	_ = append(v.Items[2].Items, Num(4))
	if spare[:1][0].Kind != 0 {
		t.Error("Seq keeps the memory of an empty argument")
	}
	v.Items[0].Items[0].N += 10
	if want := Seq(Seq(Num(11)), Seq(Num(1)), Seq()); !Equal(v, want) {
		t.Errorf("Seq keeps an argument or shares memory: %v", v)
	}
	if inner[0].N != 2 || len(items) != 3 {
		t.Error("Seq changes an argument")
	}
}

// known has encodings that the chapter states, or that follow from it by hand.
var known = []struct {
	v Value
	s string
}{
	{Num(0), "n\x00"},
	{Num(-1), "n\x01"},
	{Num(1), "n\x02"},
	{Num(63), "n\x7e"},
	{Num(-64), "n\x7f"},
	{Num(64), "n\x80\x01"},
	{Num(-65), "n\x81\x01"},
	{Num(8191), "n\xfe\x7f"},
	{Num(-8192), "n\xff\x7f"},
	{Num(8192), "n\x80\x80\x01"},
	{Num(math.MaxInt64), "n\xfe\xff\xff\xff\xff\xff\xff\xff\xff\x01"},
	{Num(math.MinInt64), "n\xff\xff\xff\xff\xff\xff\xff\xff\xff\x01"},
	{Str(""), "t\x00"},
	{Str("ab"), "t\x02ab"},
	{Str("\x00\xff\x80"), "t\x03\x00\xff\x80"},
	{Str(strings.Repeat("x", 127)), "t\x7f" + strings.Repeat("x", 127)},
	{Str(strings.Repeat("x", 128)), "t\x80\x01" + strings.Repeat("x", 128)},
	{Seq(), "l\x00"},
	{Value{Kind: List, Items: []Value{}}, "l\x00"},
	{Value{Kind: Number, N: 1, Items: []Value{}}, "n\x02"},
	{Seq(Num(1), Str("ab")), "l\x02n\x02t\x02ab"},
	{Seq(Seq(), Seq(Seq(Num(-1)))), "l\x02l\x00l\x01l\x01n\x01"},
	{Seq(slices.Repeat([]Value{Num(0)}, 200)...), "l\xc8\x01" + strings.Repeat("n\x00", 200)},
	{nested(Num(5), 16), strings.Repeat("l\x01", 16) + "n\x0a"},
	{nested(Seq(), 15), strings.Repeat("l\x01", 15) + "l\x00"},
}

func TestKnownEncodings(t *testing.T) {
	for _, c := range known {
		if s, e := Encode(c.v); s != c.s || e != api.OK {
			t.Errorf("Encode of %v: %q, %d", c.v, s, e)
		}
		if e := Check(c.v); e != api.OK {
			t.Errorf("Check of %v: %d", c.v, e)
		}
		if v, e := Decode(c.s); e != api.OK || !Equal(v, c.v) {
			t.Errorf("Decode of %q: %v, %d", c.s, v, e)
		}
		for _, rest := range []string{"", "\x00", "\x80", "n\x00", c.s} {
			if v, n, e := First(c.s + rest); e != api.OK || n != len(c.s) || !Equal(v, c.v) {
				t.Errorf("First of %q: %v, %d, %d", c.s+rest, v, n, e)
			}
			if v, e := Decode(c.s + rest); rest != "" && (e != api.ErrSyntax || fmt.Sprint(v) != fmt.Sprint(Value{})) {
				t.Errorf("Decode of %q: %v, %d", c.s+rest, v, e)
			}
		}
		for cut := range c.s {
			refused(t, c.s[:cut], api.ErrSyntax)
		}
	}
}

// refused expects both readers to refuse a string and to return nothing else.
func refused(t *testing.T, s string, want api.Errno) {
	t.Helper()
	name := s[:min(len(s), 20)]
	if v, e := Decode(s); e != want || v.Kind != 0 || v.N != 0 || v.S != "" || v.Items != nil {
		t.Errorf("Decode of %q (%d bytes): kind %d, error %d, want %d", name, len(s), v.Kind, e, want)
	}
	if v, n, e := First(s); e != want || n != 0 || v.Kind != 0 || v.N != 0 || v.S != "" || v.Items != nil {
		t.Errorf("First of %q (%d bytes): kind %d, length %d, error %d, want %d", name, len(s), v.Kind, n, e, want)
	}
}

func TestRefusedStrings(t *testing.T) {
	most := strings.Repeat("\xff", 9) + "\x01"
	for _, s := range []string{
		"", "\x00", "x\x00", "N\x00", "n", "t", "l",
		"n\x80", "n\x80\x00", "n\x81\x00", "n\xff\x80\x00", "t\x80\x00", "l\x80\x00", "t\x81\x00a",
		"n" + strings.Repeat("\xff", 9) + "\x02",
		"n" + strings.Repeat("\xff", 9) + "\x7f",
		"n" + strings.Repeat("\xff", 10) + "\x01",
		"n" + strings.Repeat("\x80", 10) + "\x01",
		"n" + strings.Repeat("\xff", 9) + "\x81\x00",
		"t\x01", "t\x03ab", "t" + most, "t" + most + "a", "t\x80\x80\x80\x80\x80\x80\x80\x80\x80\x01",
		"l\x01", "l\x02n\x00", "l\x01x", "l\x01n", "l\x02n\x00n\x80\x00", "l\x03n\x00t\x05abl\x00",
		"l" + most, "l" + most + "n\x00", "l\xff\xff\xff\x7fn\x00", "l" + strings.Repeat("\xff", 8) + "\x7f" + strings.Repeat("n\x00", 1000),
		strings.Repeat("l\x01", 17) + "n\x00",
		strings.Repeat("l\x01", 16) + "l\x00",
		"l\x02n\x00" + strings.Repeat("l\x01", 16) + "n\x00",
		strings.Repeat("l\x01", MaxBytes/2),
		strings.Repeat("l", MaxBytes),
		strings.Repeat("l\xff\xff\x07", MaxBytes/4),
		"n" + strings.Repeat("\x80", MaxBytes-1),
		"t" + strings.Repeat("\x80", MaxBytes-2) + "\x01",
	} {
		refused(t, s, api.ErrSyntax)
	}
}

func TestImpossibleValues(t *testing.T) {
	one := []Value{Num(1)}
	for _, bad := range []Value{
		{}, {N: 1}, {Kind: -1}, {Kind: 4}, {Kind: math.MaxInt}, {Kind: math.MinInt}, {Items: one},
		{Kind: Number, S: "x"}, {Kind: Number, Items: one}, {Kind: Number, N: 1, S: "x"},
		{Kind: Text, N: 1}, {Kind: Text, Items: one}, {Kind: Text, S: "x", N: -1},
		{Kind: List, N: 1}, {Kind: List, S: "x"}, {Kind: List, Items: one, N: 2}, {Kind: List, Items: one, S: "x"},
	} {
		for _, v := range []Value{
			bad,
			nested(bad, 1),
			nested(bad, 16),
			nested(bad, 17),
			nested(bad, 1<<16),
			doubled(bad, 60),
			{Kind: List, Items: []Value{Num(1), Seq(Num(2)), bad}},
			{Kind: List, Items: []Value{nested(Num(1), 20), bad}},
			{Kind: List, Items: []Value{Str(strings.Repeat("x", MaxBytes+1)), bad}},
			{Kind: List, Items: []Value{bad, Str(strings.Repeat("x", MaxBytes+1))}},
			{Kind: List, Items: []Value{knot(), nested(bad, 2)}},
		} {
			cannotEncode(t, v, api.ErrInvalid)
		}
	}
}

func cannotEncode(t *testing.T, v Value, want api.Errno) {
	t.Helper()
	if e := Check(v); e != want {
		t.Errorf("Check: %d, want %d", e, want)
	}
	if s, e := Encode(v); s != "" || e != want {
		t.Errorf("Encode: %d bytes, %d, want %d", len(s), e, want)
	}
}

func TestTooLargeValues(t *testing.T) {
	text := strings.Repeat("x", 1<<20)
	for _, v := range []Value{
		nested(Num(0), 17),
		nested(Seq(), 16),
		{Kind: List, Items: []Value{Num(0), nested(Num(0), 16)}},
		nested(Num(0), 1<<16),
		nested(Num(0), 1<<20),
		Str(text[:MaxBytes-3]),
		Str(text),
		Seq(slices.Repeat([]Value{Num(0)}, 499999)...),
		Seq(Str(text[:500000]), Str(text[:500000])),
		doubled(Str("0123456789abcdef"), 16),
		nested(doubled(Str(text), 10), 1),
		doubled(Num(0), 60),
		knot(),
		{Kind: List, Items: []Value{Num(1), knot()}},
	} {
		cannotEncode(t, v, api.ErrTooMany)
	}
}

func TestLongestEncodings(t *testing.T) {
	text := strings.Repeat("x", MaxBytes-4)
	for _, v := range []Value{
		Str(text),
		Seq(slices.Repeat([]Value{Num(0)}, 499998)...),
		Seq(Str(text[:MaxBytes-6-2])),
		nested(Str(text[:MaxBytes-4-32]), 16),
	} {
		s, e := Encode(v)
		if e != api.OK || len(s) < MaxBytes-2 || len(s) > MaxBytes || Check(v) != api.OK {
			t.Errorf("Encode: %d bytes, %d", len(s), e)
		}
		w, n, e := First(s)
		if e != api.OK || n != len(s) || !Equal(v, w) {
			t.Errorf("First of %d bytes: %d, %d", len(s), n, e)
		}
		if w, e := Decode(s); e != api.OK || !Equal(v, w) {
			t.Errorf("Decode of %d bytes: %d", len(s), e)
		}
	}
	if s, e := Encode(Str(text)); len(s) != MaxBytes || e != api.OK {
		t.Errorf("Encode of the longest text: %d bytes, %d", len(s), e)
	}
}

func TestTooLongStrings(t *testing.T) {
	for _, s := range []string{
		strings.Repeat("n\x00", MaxBytes/2) + "n",
		"n\x00" + strings.Repeat("x", MaxBytes-1),
		"t\xfd\x84\x3d" + strings.Repeat("x", MaxBytes-3),
		strings.Repeat("x", MaxBytes+1),
		strings.Repeat("l\x01", MaxBytes),
	} {
		refused(t, s, api.ErrTooMany)
	}
	s := "n\x02" + strings.Repeat("x", MaxBytes-2)
	if v, n, e := First(s); e != api.OK || n != 2 || !Equal(v, Num(1)) {
		t.Errorf("First of a string of MaxBytes: %v, %d, %d", v, n, e)
	}
	if _, e := Decode(s); e != api.ErrSyntax {
		t.Errorf("Decode of a string of MaxBytes: %d", e)
	}
}

// everyString calls f for all strings of up to length bytes from an alphabet.
func everyString(alphabet string, length int, f func(s string)) {
	var extend func(s string)
	extend = func(s string) {
		f(s)
		for i := 0; len(s) < length && i < len(alphabet); i++ {
			extend(s + alphabet[i:i+1])
		}
	}
	extend("")
}

func TestEncodingsAreCanonical(t *testing.T) {
	var values []Value
	seen := map[string]bool{}
	everyString("ntl\x00\x01\x02\x03\x7f\x80\xff", 5, func(s string) {
		v, n, e := First(s)
		if e != api.OK {
			return
		}
		if back, e := Encode(v); back != s[:n] || e != api.OK {
			t.Errorf("First of %q reads what is encoded as %q, %d", s, back, e)
		}
		w, e := Decode(s)
		if (e == api.OK) != (n == len(s)) || e == api.OK && !Equal(v, w) {
			t.Errorf("Decode of %q: %v, %d", s, w, e)
		}
		if !seen[s[:n]] {
			seen[s[:n]] = true
			values = append(values, v)
		}
	})
	slices.SortFunc(values, Compare)
	for i, v := range values[1:] {
		if Equal(values[i], v) {
			t.Errorf("%v has two encodings", v)
		}
	}
	if len(values) < 500 {
		t.Errorf("only %d values", len(values))
	}
}

func TestNumbersOfAllLengths(t *testing.T) {
	for shift := range 64 {
		for near := int64(-2); near <= 2; near++ {
			for _, n := range []int64{int64(uint64(1)<<shift) + near, -int64(uint64(1)<<shift) + near} {
				s, e := Encode(Num(n))
				v, d := Decode(s)
				if e != api.OK || d != api.OK || v.N != n {
					t.Errorf("%d: %q, %d, %v, %d", n, s, e, v, d)
				}
				folded := new(big.Int).Lsh(big.NewInt(n), 1)
				if n < 0 {
					folded.Neg(folded).Sub(folded, big.NewInt(1))
				}
				if want := max(1, (folded.BitLen()+6)/7); len(s) != 1+want {
					t.Errorf("%d has %d groups, want %d", n, len(s)-1, want)
				}
			}
		}
	}
}

func TestOrder(t *testing.T) {
	list := []Value{
		{Kind: math.MinInt}, {Kind: -1, N: 5}, {}, {Items: []Value{Num(1)}}, {S: "a"}, {N: 1},
		Num(math.MinInt64), Num(-5), Num(-1), Num(0), {Kind: Number, Items: []Value{Str("")}}, {Kind: Number, S: "a"}, Num(3), {Kind: Number, N: 3, S: "a"}, Num(math.MaxInt64),
		{Kind: Text, N: -1, S: "z"}, Str(""), Str("\x00"), Str("B"), Str("a"), {Kind: Text, S: "a", Items: []Value{{}}}, Str("a\x00"), Str("ab"), Str("b"), Str("\x80"), Str("\xff"), {Kind: Text, N: 1},
		{Kind: List, N: -1, Items: []Value{Str("z")}}, Seq(), Seq(Value{}), Seq(Num(1)), Seq(Num(1), Num(0)), Seq(Num(1), Num(0), Num(0)), Seq(Num(1), Num(7)), Seq(Num(1), Seq()), Seq(Num(2)), Seq(Str("")), Seq(Seq()), Seq(Seq(), Num(0)), Seq(Seq(Num(0))), Seq(Seq(Num(0), Num(5))), Seq(Seq(Num(1))), {Kind: List, S: "a"}, {Kind: List, N: 1},
		{Kind: 4}, {Kind: math.MaxInt},
	}
	for i, a := range list {
		for k, b := range list {
			want := min(1, max(-1, i-k))
			if got := Compare(a, b); got != want {
				t.Errorf("Compare(%v, %v) = %d, want %d", a, b, got, want)
			}
			if got := Equal(a, b); got != (i == k) {
				t.Errorf("Equal(%v, %v) = %v", a, b, got)
			}
		}
	}
}

func TestEqual(t *testing.T) {
	v := Seq(Num(1), Seq(Str("a"), Num(2)))
	if !Equal(v, Seq(Num(1), Seq(Str("a"), Num(2)))) {
		t.Error("a value differs from its copy")
	}
	if !Equal(Value{Kind: List}, Value{Kind: List, Items: []Value{}}) || !Equal(Value{Kind: 9, Items: []Value{}}, Value{Kind: 9}) {
		t.Error("nil and empty lists are the same")
	}
	for _, w := range []Value{
		Seq(Num(2), Seq(Str("a"), Num(2))), Seq(Num(1), Seq(Str("b"), Num(2))), Seq(Num(1), Seq(Str("a"), Num(3))),
		Seq(Num(1), Seq(Str("a"))), Seq(Num(1)), Seq(Num(1), Seq(Str("a"), Num(2), Num(2))), Seq(), {},
	} {
		if Equal(v, w) || Equal(w, v) {
			t.Errorf("%v equals %v", v, w)
		}
	}
}

func TestOrderOfHostileValues(t *testing.T) {
	deep := nested(Num(1), 1<<16)
	if Compare(deep, nested(Num(1), 1<<16)) != 0 || Compare(deep, nested(Num(2), 1<<16)) != -1 || Compare(deep, nested(Seq(), 1<<16)) != -1 {
		t.Error("Compare of deep values")
	}
	wide := doubled(Num(1), 60)
	if !Equal(wide, doubled(Num(1), 60)) || Compare(wide, doubled(Num(2), 60)) != -1 || Compare(doubled(Num(1), 61), wide) != 1 {
		t.Error("Compare of wide values")
	}
	if !Equal(knot(), knot()) || Compare(knot(), Num(1)) != 1 || Compare(Seq(), knot()) != -1 {
		t.Error("Compare of a list that contains itself")
	}
	if v := Seq(nested(Num(1), 1<<16)); !Equal(v, nested(Num(1), 1<<16+1)) {
		t.Error("Seq of a deep value")
	}
	if v := Seq(Num(1), knot()); Check(v) == api.OK {
		t.Error("Seq of a list that contains itself")
	}
}

func TestListsInSharedMemory(t *testing.T) {
	shared := []Value{Num(1), Num(2), {}}
	list := func(count int) Value { return Value{Kind: List, Items: shared[:count]} }
	both := func(a, b Value) Value { return Value{Kind: List, Items: []Value{a, b}} }
	for _, c := range []struct {
		a, b Value
		want int
	}{
		{both(list(1), list(1)), Seq(Seq(Num(1)), Seq(Num(2))), -1},
		{both(list(1), list(1)), Seq(Seq(Num(1)), Seq(Num(0))), 1},
		{both(list(1), list(1)), both(list(1), list(2)), -1},
		{both(list(2), list(2)), both(list(2), list(1)), 1},
		{both(list(1), list(2)), Seq(Seq(Num(1)), Seq(Num(1), Num(2))), 0},
		{both(list(1), list(2)), Seq(Seq(Num(1)), Seq(Num(1), Num(3))), -1},
	} {
		if got := Compare(c.a, c.b); got != c.want {
			t.Errorf("Compare(%v, %v) = %d, want %d", c.a, c.b, got, c.want)
		}
		if got := Compare(c.b, c.a); got != -c.want {
			t.Errorf("Compare(%v, %v) = %d, want %d", c.b, c.a, got, -c.want)
		}
	}
	if e := Check(both(list(1), list(2))); e != api.OK {
		t.Errorf("Check of shared lists: %d", e)
	}
	for _, v := range []Value{both(list(1), list(3)), both(list(3), list(1)), both(list(2), both(list(2), list(3)))} {
		cannotEncode(t, v, api.ErrInvalid)
	}
}

func TestReadersShareNoMemory(t *testing.T) {
	s := "l\x02l\x01n\x02l\x01n\x02"
	v, _ := Decode(s)
	w, _, _ := First(s)
	v.Items[0].Items[0] = Num(9)
	v.Items[1] = Num(8)
	if want := Seq(Seq(Num(1)), Seq(Num(1))); !Equal(w, want) {
		t.Errorf("%v", w)
	}
}

// digestModel follows the chapter with numbers of any size.
func digestModel(s string) string {
	word := new(big.Int).Lsh(big.NewInt(1), 64)
	factor, _ := new(big.Int).SetString("18397679294719823053", 10)
	h, _ := new(big.Int).SetString("11400714819323198485", 10)
	for i := range len(s) {
		rotated := new(big.Int).Lsh(h, 7)
		rotated.Or(rotated, new(big.Int).Rsh(h, 57)).Mod(rotated, word)
		rotated.Xor(rotated, big.NewInt(int64(s[i])))
		h = rotated.Mul(rotated, factor).Mod(rotated, word)
	}
	h.Xor(h, new(big.Int).Rsh(h, 32))
	return fmt.Sprintf("%016x", h)
}

func TestDigest(t *testing.T) {
	if d := Digest(""); d != "9e3779b9e17d05ac" {
		t.Errorf("Digest of nothing: %s", d)
	}
	seen := map[string]string{}
	everyString("a\x00\x80\xff", 6, func(s string) {
		d := Digest(s)
		if d != digestModel(s) {
			t.Errorf("Digest(%q) = %s, want %s", s, d, digestModel(s))
		}
		if other, ok := seen[d]; ok {
			t.Errorf("%q and %q have the same digest", s, other)
		}
		seen[d] = s
	})
	for _, d := range []string{Digest(strings.Repeat("x", 2*MaxBytes)), Digest("l\x01n\x02"), Digest("\xff\xfe")} {
		if len(d) != 16 || strings.Trim(d, "0123456789abcdef") != "" {
			t.Errorf("%q is no digest", d)
		}
	}
	short := 0
	for d := range seen {
		if d[0] == '0' {
			short++
		}
	}
	if short == 0 {
		t.Error("no digest with a leading 0 is tested")
	}
}

func TestDigestsOfNeighbours(t *testing.T) {
	base := []byte("l\x02n\x02t\x02ab, and some more bytes")
	for i := range base {
		seen := map[string]bool{}
		for b := range 256 {
			near := slices.Clone(base)
			near[i] = byte(b)
			seen[Digest(string(near))] = true
		}
		if len(seen) != 256 {
			t.Errorf("strings that differ in byte %d have %d digests", i, len(seen))
		}
	}
}

func FuzzDecode(f *testing.F) {
	for _, c := range known {
		f.Add(c.s)
	}
	f.Add("l\xff\xff\xff\xff\xff\xff\xff\xff\xff\x01")
	f.Fuzz(func(t *testing.T, s string) {
		v, n, e := First(s)
		if e != api.OK {
			refused(t, s, e)
			return
		}
		if back, e := Encode(v); back != s[:n] || e != api.OK {
			t.Errorf("%q is encoded as %q, %d", s[:n], back, e)
		}
	})
}
