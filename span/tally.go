package span

import (
	"slices"

	"bspregion/api"
	"bspregion/rational"
)

// end is a number at which a span opens or closes on the way upwards.
type end struct {
	at     api.Rat
	change int // of the number of open spans: 1 or -1
}

// compare orders ends by their numbers.
func (e end) compare(f end) int {
	return rational.Cmp(e.at, f.at)
}

// tally counts the open spans of a list on the way upwards.
type tally struct {
	open int   // below all ends
	ends []end // ascending
}

// tallyOf counts the spans of a list whose ends ascend. It shares the memory of the list, so its numbers are not to leave the package.
func tallyOf(list []api.Span) tally {
	var c tally
	for _, s := range list {
		if s.NoLo {
			c.open++
		} else {
			c.ends = append(c.ends, end{s.Lo, 1})
		}
		if !s.NoHi {
			c.ends = append(c.ends, end{s.Hi, -1})
		}
	}
	return c
}

// sorted is c, which counts spans in any order, with ascending ends.
func (c tally) sorted() tally {
	return tally{c.open, slices.SortedFunc(slices.Values(c.ends), end.compare)}
}

// inverse counts 1 where c counts 0, and 0 where c counts 1.
func (c tally) inverse() tally {
	inverse := tally{open: 1 - c.open}
	for _, e := range c.ends {
		inverse.ends = append(inverse.ends, end{e.at, -e.change})
	}
	return inverse
}

// reached returns the set of the numbers at which c and d together count at least level.
func reached(c, d tally, level int) []api.Span {
	open, ends := c.open+d.open, [2][]end{c.ends, d.ends}
	// pass counts the open spans on the way past the number at, and removes the ends that are there. As these count at once, no single point is left and no gap without length.
	pass := func(at api.Rat) {
		for i, rest := range ends {
			for len(rest) > 0 && rational.Cmp(rest[0].at, at) == 0 {
				open += rest[0].change
				rest = rest[1:]
			}
			ends[i] = rest
		}
	}
	var set []api.Span
	inside := open >= level
	if inside {
		set = append(set, api.Span{NoLo: true, NoHi: true})
	}
	for at, ok := least(ends); ok; at, ok = least(ends) {
		pass(at)
		if inside != (open >= level) {
			inside = !inside
			set = toggle(set, at)
		}
	}
	return set
}

// toggle ends the last span of the set at this number, or begins a new one there if the last one has an end.
func toggle(set []api.Span, at api.Rat) []api.Span {
	at = rational.Norm(at)
	if last := len(set) - 1; last >= 0 && set[last].NoHi {
		set[last].Hi, set[last].NoHi = at, false
		return set
	}
	return append(set, api.Span{Lo: at, NoHi: true})
}

// least returns the least number of two ascending lists of ends and true, or false if both are empty.
func least(ends [2][]end) (api.Rat, bool) {
	c, d := ends[0], ends[1]
	switch {
	case len(c) == 0 && len(d) == 0:
		return api.Rat{}, false
	case len(d) == 0 || len(c) > 0 && c[0].compare(d[0]) <= 0:
		return c[0].at, true
	}
	return d[0].at, true
}
