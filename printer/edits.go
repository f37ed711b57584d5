package printer

import (
	"slices"

	"gangsaw/api"
)

// The kinds of edits.
const (
	Keep   = 0
	Delete = 1
	Insert = 2
)

// maxRows is how many rows Diff compares at most.
const maxRows = 500

// Edit keeps or deletes a line of the old source, or inserts one of the new source.
type Edit struct {
	Kind int
	Text string
}

// Diff returns the shortest edits that lead from rows to other rows.
func Diff(old, now []string) ([]Edit, api.Errno) {
	if len(old) > maxRows || len(now) > maxRows {
		return nil, api.ErrTooMany
	}
	counts := changes(old, now)
	var edits []Edit
	i, j := 0, 0
	for i < len(old) || j < len(now) {
		switch {
		case i < len(old) && j < len(now) && old[i] == now[j]:
			edits = append(edits, Edit{Kind: Keep, Text: old[i]})
			i++
			j++
		case i < len(old) && counts[i+1][j] < counts[i][j]:
			edits = append(edits, Edit{Kind: Delete, Text: old[i]})
			i++
		default:
			edits = append(edits, Edit{Kind: Insert, Text: now[j]})
			j++
		}
	}
	return edits, api.OK
}

// Apply returns the rows that edits make of rows.
func Apply(old []string, edits []Edit) ([]string, api.Errno) {
	unknown := func(d Edit) bool { return d.Kind < Keep || d.Kind > Insert }
	if slices.ContainsFunc(edits, unknown) {
		return nil, api.ErrInvalid
	}
	var now []string
	for _, d := range edits {
		if d.Kind != Insert {
			if len(old) == 0 || old[0] != d.Text {
				return nil, api.ErrConflict
			}
			old = old[1:]
		}
		if d.Kind != Delete {
			now = append(now, d.Text)
		}
	}
	if len(old) > 0 {
		return nil, api.ErrConflict
	}
	return now, api.OK
}

// Invert returns the edits that lead back.
func Invert(edits []Edit) []Edit {
	back := slices.Clone(edits)
	for i, d := range edits {
		switch d.Kind {
		case Delete:
			back[i].Kind = Insert
		case Insert:
			back[i].Kind = Delete
		}
	}
	return back
}

// changes returns a table: its number at i and j is how many Delete and Insert lead at least from old to now without their first i and j rows.
func changes(old, now []string) [][]int {
	counts := make([][]int, len(old)+1)
	for i := len(old); i >= 0; i-- {
		counts[i] = make([]int, len(now)+1)
		for j := len(now); j >= 0; j-- {
			switch {
			case i == len(old):
				counts[i][j] = len(now) - j
			case j == len(now):
				counts[i][j] = len(old) - i
			case old[i] == now[j]:
				counts[i][j] = counts[i+1][j+1]
			default:
				counts[i][j] = 1 + min(counts[i+1][j], counts[i][j+1])
			}
		}
	}
	return counts
}
