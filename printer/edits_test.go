package printer

import (
	"math"
	"slices"
	"strconv"
	"strings"
	"testing"

	"gangsaw/api"
)

// edits returns the edits that are written as their signs, one after the other: " a" keeps a, "-a" deletes a, "+a" inserts a.
func edits(list ...string) []Edit {
	var out []Edit
	for _, s := range list {
		out = append(out, Edit{Kind: strings.Index(" -+", s[:1]), Text: s[1:]})
	}
	return out
}

func rows(s string) []string { return strings.Fields(s) }

func TestConstants(t *testing.T) {
	if Keep != 0 || Delete != 1 || Insert != 2 {
		t.Error(Keep, Delete, Insert)
	}
}

func TestDiffKnownRows(t *testing.T) {
	for _, c := range []struct {
		old, now string
		want     []Edit
	}{
		{"a b c", "b c d", edits("-a", " b", " c", "+d")},
		{"a b", "b a", edits("-a", " b", "+a")},
		{"", "", nil},
		{"a", "a", edits(" a")},
		{"a", "", edits("-a")},
		{"", "a", edits("+a")},
		{"a", "b", edits("-a", "+b")},
		{"a b", "c d", edits("-a", "-b", "+c", "+d")},
		{"a b", "x b", edits("-a", "+x", " b")},
		{"a", "b a", edits("+b", " a")},
		{"a b c", "c a b", edits("+c", " a", " b", "-c")},
		{"a a", "a", edits(" a", "-a")},
		{"a", "a a", edits(" a", "+a")},
		{"a b a", "a", edits(" a", "-b", "-a")},
		{"a a b", "a b a", edits(" a", "-a", " b", "+a")},
		{"b a", "a b a", edits("+a", " b", " a")},
		{"a b c d", "a x c y", edits(" a", "-b", "+x", " c", "-d", "+y")},
		{"a b c a b b a", "c b a b a c", edits("-a", "-b", " c", "-a", " b", "+a", " b", " a", "+c")},
	} {
		got, e := Diff(rows(c.old), rows(c.now))
		if !slices.Equal(got, c.want) || e != api.OK {
			t.Errorf("%q to %q: %v, %d, want %v", c.old, c.now, got, e, c.want)
		}
	}
	if got, e := Diff([]string{"", "\n", "a"}, []string{"\n", ""}); !slices.Equal(got, []Edit{{Delete, ""}, {Keep, "\n"}, {Delete, "a"}, {Insert, ""}}) || e != api.OK {
		t.Errorf("%v, %d", got, e)
	}
}

// changesOf counts what is not kept.
func changesOf(edits []Edit) int {
	n := 0
	for _, d := range edits {
		if d.Kind != Keep {
			n++
		}
	}
	return n
}

// all calls visit for all edits that lead from rows to other rows.
func all(old, now []string, visit func([]Edit)) {
	var list []Edit
	var step func(old, now []string)
	step = func(old, now []string) {
		if len(old) == 0 && len(now) == 0 {
			visit(list)
			return
		}
		try := func(d Edit, old, now []string) {
			list = append(list, d)
			step(old, now)
			list = list[:len(list)-1]
		}
		if len(old) > 0 && len(now) > 0 && old[0] == now[0] {
			try(Edit{Keep, old[0]}, old[1:], now[1:])
		}
		if len(old) > 0 {
			try(Edit{Delete, old[0]}, old[1:], now)
		}
		if len(now) > 0 {
			try(Edit{Insert, now[0]}, old, now[1:])
		}
	}
	step(old, now)
}

// modelDiff finds among all edits the shortest ones, and then the first ones by the kinds Keep, Delete, Insert: rows that are equal can always be kept.
func modelDiff(old, now []string) []Edit {
	var best []Edit
	found := false
	all(old, now, func(list []Edit) {
		if !found || changesOf(list) < changesOf(best) {
			best, found = slices.Clone(list), true
		}
	})
	return best
}

// checkEdits checks what is promised of the shortest edits.
func checkEdits(t *testing.T, old, now []string, got []Edit) {
	t.Helper()
	if there, e := Apply(old, got); !slices.Equal(there, now) || e != api.OK {
		t.Fatalf("%q to %q: %v leads to %q, %d", old, now, got, there, e)
	}
	if back, e := Apply(now, Invert(got)); !slices.Equal(back, old) || e != api.OK {
		t.Fatalf("%q to %q: back, %v leads to %q, %d", old, now, got, back, e)
	}
}

func TestDiffOfAllShortRows(t *testing.T) {
	var lists [][]string
	for length := range 5 {
		count := 1
		for range length {
			count *= 3
		}
		for n := range count {
			var list []string
			for range length {
				list = append(list, string(rune('a'+n%3)))
				n /= 3
			}
			lists = append(lists, list)
		}
	}
	for _, old := range lists {
		for _, now := range lists {
			got, e := Diff(old, now)
			if want := modelDiff(old, now); !slices.Equal(got, want) || e != api.OK {
				t.Fatalf("%q to %q: %v, %d, want %v", old, now, got, e, want)
			}
			checkEdits(t, old, now, got)
		}
	}
}

// longest returns how many rows two lists have in common at most, in order.
func longest(a, b []string) int {
	above := make([]int, len(b)+1)
	for _, x := range a {
		own := make([]int, len(b)+1)
		for j, y := range b {
			own[j+1] = max(own[j], above[j+1])
			if x == y {
				own[j+1] = above[j] + 1
			}
		}
		above = own
	}
	return above[len(b)]
}

// drawRows returns rows of which there are so many kinds.
func drawRows(next func(below int) int, length, kinds int) []string {
	var out []string
	for range length {
		out = append(out, "row "+strconv.Itoa(next(kinds)))
	}
	return out
}

func TestDiffDrawnRows(t *testing.T) {
	next := draw(1)
	for range 400 {
		kinds := 1 + next(20)
		old, now := drawRows(next, next(40), kinds), drawRows(next, next(40), kinds)
		checkDiff(t, old, now)
	}
	for _, kinds := range []int{1, 2, 10, 400} {
		checkDiff(t, drawRows(next, 500, kinds), drawRows(next, 500, kinds))
	}
	many := drawRows(next, 500, 30)
	checkDiff(t, many, many)
	checkDiff(t, many, nil)
	checkDiff(t, nil, many)
	checkDiff(t, many, many[1:])
	checkDiff(t, many[:499], many)
}

// checkDiff checks by the longest common rows that edits are the shortest ones and chosen by the rule: Keep where it is possible, and Insert in front of Delete only where Delete would cost more.
func checkDiff(t *testing.T, old, now []string) {
	t.Helper()
	got, e := Diff(old, now)
	if e != api.OK || changesOf(got) != len(old)+len(now)-2*longest(old, now) {
		t.Fatalf("%q to %q: %v, %d", old, now, got, e)
	}
	checkEdits(t, old, now, got)
	if slices.Equal(old, now) && changesOf(got) > 0 {
		t.Fatalf("%q and itself: %v", old, got)
	}
	for n, d := range got {
		equal := len(old) > 0 && len(now) > 0 && old[0] == now[0]
		if equal && d.Kind != Keep {
			t.Fatalf("edit %d of %v does not keep %q", n, got, old[0])
		}
		if len(old) < 40 && d.Kind == Insert && len(old) > 0 && longest(old[1:], now) == longest(old, now) {
			t.Fatalf("edit %d of %v does not delete %q", n, got, old[0])
		}
		if d.Kind != Insert {
			old = old[1:]
		}
		if d.Kind != Delete {
			now = now[1:]
		}
	}
}

func TestDiffTooManyRows(t *testing.T) {
	full := slices.Repeat([]string{"a"}, 500)
	more := append(slices.Clone(full), "a")
	for _, c := range []struct {
		old, now []string
		want     api.Errno
	}{
		{full, full, api.OK}, {more, full, api.ErrTooMany}, {full, more, api.ErrTooMany}, {more, more, api.ErrTooMany}, {more, nil, api.ErrTooMany}, {nil, more, api.ErrTooMany}, {full, nil, api.OK}, {nil, full, api.OK},
	} {
		got, e := Diff(c.old, c.now)
		if e != c.want || (e == api.OK) != (got != nil) {
			t.Errorf("%d and %d rows: %d edits, %d", len(c.old), len(c.now), len(got), e)
		}
	}
	// Edits may be of any number, other than rows that are compared.
	if now, e := Apply(nil, slices.Repeat(edits("+a"), 2000)); len(now) != 2000 || e != api.OK {
		t.Errorf("%d rows, %d", len(now), e)
	}
}

func TestApply(t *testing.T) {
	for _, c := range []struct {
		old   string
		edits []Edit
		want  string
		e     api.Errno
	}{
		{"a", edits(" b"), "", api.ErrConflict},
		{"", nil, "", api.OK},
		{"a b", edits(" a", " b"), "a b", api.OK},
		{"a b", edits("-a", "-b"), "", api.OK},
		{"", edits("+a", "+b"), "a b", api.OK},
		{"a", edits("+x", " a", "+y", "+a"), "x a y a", api.OK},
		{"a b", edits("+b", "-a", " b", "+a"), "b b a", api.OK},
		{"a b", edits("-a", "+c", "-b"), "c", api.OK},
		{"a b", edits("+c", "-a", "-b", "+d"), "c d", api.OK},
		{"a", edits("-b"), "", api.ErrConflict},
		{"a", edits(" A"), "", api.ErrConflict},
		{"", edits(" a"), "", api.ErrConflict},
		{"", edits("-a"), "", api.ErrConflict},
		{"a", edits(" a", " a"), "", api.ErrConflict},
		{"a", edits(" a", "-a"), "", api.ErrConflict},
		{"a", nil, "", api.ErrConflict},
		{"a", edits("+a"), "", api.ErrConflict},
		{"a b", edits(" a"), "", api.ErrConflict},
		{"a b", edits("-a", "+b"), "", api.ErrConflict},
		{"a b", edits(" b", " a"), "", api.ErrConflict},
		{"a", []Edit{{Kind: 3}}, "", api.ErrInvalid},
		{"a", []Edit{{Kind: -1, Text: "a"}}, "", api.ErrInvalid},
		{"a", []Edit{{Keep, "a"}, {Kind: math.MaxInt}}, "", api.ErrInvalid},
		{"a", []Edit{{Kind: math.MinInt}, {Keep, "a"}}, "", api.ErrInvalid},
		// Of several errors the first one counts: a Kind, wherever it stands, before a conflict.
		{"a", []Edit{{Keep, "b"}, {Kind: 3}}, "", api.ErrInvalid},
		{"", []Edit{{Delete, "b"}, {Insert, "a"}, {Kind: -1}}, "", api.ErrInvalid},
		{"a b", []Edit{{Insert, "a"}, {Kind: 4}}, "", api.ErrInvalid},
	} {
		old := rows(c.old)
		before := slices.Clone(c.edits)
		got, e := Apply(old, c.edits)
		if !slices.Equal(got, rows(c.want)) || e != c.e || e != api.OK && got != nil {
			t.Errorf("%v of %q: %q, %d, want %q, %d", c.edits, c.old, got, e, c.want, c.e)
		}
		if !slices.Equal(old, rows(c.old)) || !slices.Equal(c.edits, before) {
			t.Errorf("%v of %q: the arguments were changed", c.edits, c.old)
		}
	}
	if got, e := Apply([]string{""}, []Edit{{Keep, ""}, {Insert, ""}}); len(got) != 2 || e != api.OK {
		t.Errorf("%q, %d", got, e)
	}
}

func TestApplySharesNoMemory(t *testing.T) {
	old := rows("a b c")
	got, _ := Apply(old, edits(" a", " b", " c"))
	got[0] = "x"
	_ = append(got[:1], "y")
	if !slices.Equal(old, rows("a b c")) {
		t.Errorf("%q", old)
	}
}

func TestInvert(t *testing.T) {
	list := append(edits(" a", "-b", "+c", "-d", " e", "+a"), Edit{Kind: 3, Text: "f"}, Edit{Kind: -1})
	want := append(edits(" a", "+b", "-c", "+d", " e", "-a"), Edit{Kind: 3, Text: "f"}, Edit{Kind: -1})
	before := slices.Clone(list)
	got := Invert(list)
	if !slices.Equal(got, want) || !slices.Equal(Invert(got), list) {
		t.Errorf("%v", got)
	}
	clear(got[:cap(got)])
	if !slices.Equal(list, before) {
		t.Errorf("the edits were changed: %v", list)
	}
	if got := Invert(nil); len(got) != 0 {
		t.Errorf("%v", got)
	}
}
