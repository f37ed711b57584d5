package boring

import (
	"cmp"
	"slices"

	"gangsaw/api"
	"gangsaw/lexer"
)

// check returns the first error of borings, each for all of them. What does not lie within a box has the error outside.
func check(within api.Box, outside api.Errno, list ...api.Boring) api.Errno {
	for _, rule := range []struct {
		code   api.Errno
		broken func(b api.Boring) bool
	}{
		{api.ErrName, func(b api.Boring) bool { return !lexer.Name(b.Name) }},
		{api.ErrTooMany, func(b api.Boring) bool { return len(b.Logs) > api.MaxLogs }},
		{api.ErrInvalid, func(b api.Boring) bool { return slices.ContainsFunc(b.Logs, wrong) }},
		{outside, func(b api.Boring) bool { return !lies(b, within) }},
		{api.ErrOverlap, func(b api.Boring) bool { return !increasing(b.Logs) }},
	} {
		if slices.ContainsFunc(list, rule.broken) {
			return rule.code
		}
	}
	return api.OK
}

// checkFormed returns the first error of a boring that need not lie in a certain pit.
func checkFormed(b api.Boring) api.Errno {
	const far = api.MaxCoord
	everywhere := api.Box{Min: api.Vec{X: -far, Y: -far, Z: -far}, Max: api.Vec{X: far, Y: far, Z: far}}
	return check(everywhere, api.ErrRange, b)
}

func wrong(l api.Log) bool {
	return l.Lo >= l.Hi || l.State != api.Sound && l.State != api.Flawed
}

// lies reports whether a boring with logs that are not wrong lies within a box.
func lies(b api.Boring, within api.Box) bool {
	out := func(l api.Log) bool { return l.Lo < within.Min.Z || l.Hi > within.Max.Z }
	return within.Min.X <= b.At.X && b.At.X < within.Max.X &&
		within.Min.Y <= b.At.Y && b.At.Y < within.Max.Y && !slices.ContainsFunc(b.Logs, out)
}

// increasing reports whether each log has a z, and none begins below the end of the one before.
func increasing(logs []api.Log) bool {
	for i, l := range logs {
		if l.Lo >= l.Hi || i > 0 && l.Lo < logs[i-1].Hi {
			return false
		}
	}
	return true
}

func allowed(p api.Point) bool {
	within := func(n int) bool { return -api.MaxCoord <= n && n <= api.MaxCoord }
	return within(p.X) && within(p.Y)
}

// joined returns the fewest logs, in order, that say what all logs of a list and some more say, unless two of them contradict each other.
func joined(list []api.Log, more ...api.Log) ([]api.Log, bool) {
	logs := append(slices.Clone(list), more...)
	slices.SortStableFunc(logs, func(a, b api.Log) int { return cmp.Compare(a.Lo, b.Lo) })
	var out []api.Log
	for _, l := range logs {
		last := len(out) - 1
		switch {
		case last < 0 || l.Lo > out[last].Hi || l.Lo == out[last].Hi && l.State != out[last].State:
			out = append(out, l)
		case l.State != out[last].State:
			return nil, false
		default:
			out[last].Hi = max(out[last].Hi, l.Hi)
		}
	}
	return out, true
}
