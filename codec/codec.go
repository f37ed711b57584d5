// Package codec is layer 2: a canonical encoding of trees of numbers and texts, and a digest. See shared/doc/02-codec.md.
package codec

import (
	"cmp"
	"math/bits"
	"slices"
	"strconv"
	"strings"

	"gangsaw/api"
)

// The kinds of values.
const (
	Number = 1
	Text   = 2
	List   = 3
)

// Limits of values.
const (
	MaxDepth = 16
	MaxBytes = 1000000 // bytes of an encoding
)

// The first bytes of encodings.
const (
	numberMark = 'n'
	textMark   = 't'
	listMark   = 'l'
)

// The numbers of the digest.
const (
	digestStart  = 11400714819323198485
	digestFactor = 18397679294719823053
	digestDigits = 16
)

// maxLevels is far more than the limits of the document allow: only a list that contains itself goes deeper.
const maxLevels = 1 << 20

// Value is a number (N), a text (S), or a list of values (Items).
type Value struct {
	Kind  int
	N     int64
	S     string
	Items []Value
}

// Num returns the value of a number.
func Num(n int64) Value { return Value{Kind: Number, N: n} }

// Str returns the value of a text.
func Str(s string) Value { return Value{Kind: Text, S: s} }

// Seq returns the value of a list. It is a copy down to the leaves; a list that contains itself has none, and gives the zero value.
func Seq(items ...Value) Value {
	endless := false
	var clone func(list []Value, level int) []Value
	clone = func(list []Value, level int) []Value {
		endless = endless || level > maxLevels
		if endless || len(list) == 0 {
			return nil
		}
		out := slices.Clone(list)
		for i, item := range out {
			out[i].Items = clone(item.Items, level+1)
		}
		return out
	}
	v := Value{Kind: List, Items: clone(items, 0)}
	if endless {
		return Value{}
	}
	return v
}

// Check returns OK for a value that can be encoded, or the first error.
func Check(v Value) api.Errno {
	_, e := Encode(v)
	return e
}

// Encode returns the encoding of a value.
func Encode(v Value) (string, api.Errno) {
	if !possible(v) {
		return "", api.ErrInvalid
	}
	var out []byte
	var write func(v Value, level int) bool
	write = func(v Value, level int) bool {
		switch v.Kind {
		case Number:
			out = appendCount(append(out, numberMark), fold(v.N))
		case Text:
			if len(v.S) > MaxBytes {
				return false
			}
			out = append(appendCount(append(out, textMark), uint64(len(v.S))), v.S...)
		case List:
			if level == MaxDepth {
				return false
			}
			out = appendCount(append(out, listMark), uint64(len(v.Items)))
			for _, item := range v.Items {
				if !write(item, level+1) {
					return false
				}
			}
		}
		return len(out) <= MaxBytes
	}
	if !write(v, 0) {
		return "", api.ErrTooMany
	}
	return string(out), api.OK
}

// Decode returns the value of an encoding.
func Decode(s string) (Value, api.Errno) {
	v, n, e := First(s)
	if e == api.OK && n < len(s) {
		return Value{}, api.ErrSyntax
	}
	return v, e
}

// First returns the value with whose encoding a string begins, and the length of this encoding.
func First(s string) (Value, int, api.Errno) {
	if len(s) > MaxBytes {
		return Value{}, 0, api.ErrTooMany
	}
	r := reader{s: s}
	v, ok := r.value(0)
	if !ok {
		return Value{}, 0, api.ErrSyntax
	}
	return v, r.at, api.OK
}

// Equal reports whether two values are the same.
func Equal(a, b Value) bool { return Compare(a, b) == 0 }

// Compare compares two values: numbers before texts before lists, then by what they contain.
func Compare(a, b Value) int {
	met := map[[2]place]bool{}
	var compare func(a, b Value) int
	compare = func(a, b Value) int {
		own := cmp.Or(cmp.Compare(a.Kind, b.Kind), cmp.Compare(a.N, b.N), strings.Compare(a.S, b.S))
		if own != 0 || len(a.Items) == 0 || len(b.Items) == 0 {
			return cmp.Or(own, cmp.Compare(len(a.Items), len(b.Items)))
		}
		// Two lists that were met are equal so far: a difference would have ended the comparison.
		pair := [2]place{placeOf(a.Items), placeOf(b.Items)}
		if met[pair] {
			return 0
		}
		met[pair] = true
		return slices.CompareFunc(a.Items, b.Items, compare)
	}
	return compare(a, b)
}

// Digest returns the digest of a string: 16 hexadecimal digits.
func Digest(s string) string {
	h := uint64(digestStart)
	for i := range len(s) {
		h = (bits.RotateLeft64(h, 7) ^ uint64(s[i])) * digestFactor
	}
	h ^= h >> 32
	digits := strconv.FormatUint(h, 16)
	return strings.Repeat("0", digestDigits-len(digits)) + digits
}

// place tells where a list lies. One list may stand in a value very often, and even contain itself; by its place it is looked at only once.
type place struct {
	first *Value
	count int
}

// placeOf expects a list that is not empty.
func placeOf(list []Value) place { return place{first: &list[0], count: len(list)} }

// possible reports whether a value is possible. It keeps the lists that are still to be looked at by itself, so that no depth is too great for it.
func possible(v Value) bool {
	met := map[place]bool{}
	open := [][]Value{{v}}
	for len(open) > 0 {
		list := open[len(open)-1]
		open = open[:len(open)-1]
		for _, item := range list {
			if !fieldsFit(item) {
				return false
			}
			if len(item.Items) == 0 || met[placeOf(item.Items)] {
				continue
			}
			met[placeOf(item.Items)] = true
			open = append(open, item.Items)
		}
	}
	return true
}

// fieldsFit reports whether a value has a kind, and nothing in the fields that this kind does not use.
func fieldsFit(v Value) bool {
	switch v.Kind {
	case Number:
		return v.S == "" && len(v.Items) == 0
	case Text:
		return v.N == 0 && len(v.Items) == 0
	case List:
		return v.N == 0 && v.S == ""
	}
	return false
}

// fold maps 0, -1, 1, -2, 2 and so on to 0, 1, 2, 3, 4. For a negative n, ^n is -n - 1, which always has 63 bits.
func fold(n int64) uint64 {
	if n < 0 {
		return 2*uint64(^n) + 1
	}
	return 2 * uint64(n)
}

func unfold(u uint64) int64 {
	if u%2 == 1 {
		return ^int64(u / 2)
	}
	return int64(u / 2)
}

func appendCount(out []byte, n uint64) []byte {
	for n >= 128 {
		out = append(out, byte(n%128)+128)
		n /= 128
	}
	return append(out, byte(n))
}
