package fragment

import (
	"slices"

	"bspregion/api"
	"bspregion/line"
	"bspregion/rational"
	"bspregion/span"
)

// Join returns the joined list whose fragments have, for each oriented line, the same points as those of l.
func Join(l []api.Fragment) ([]api.Fragment, error) {
	if slices.ContainsFunc(l, func(f api.Fragment) bool { return !Valid(f) }) {
		return nil, api.ErrInvalid
	}
	var list []api.Fragment
	for _, f := range slices.SortedFunc(slices.Values(l), compare) {
		list = add(list, f)
	}
	return list, nil
}

// compare orders fragments by their lines, and on a line by their first points.
func compare(f, g api.Fragment) int {
	if order := line.Compare(f.Line, g.Line); order != 0 {
		return order
	}
	switch {
	case f.Span.NoLo && g.Span.NoLo:
		return 0
	case f.Span.NoLo:
		return -1
	case g.Span.NoLo:
		return 1
	}
	return rational.Cmp(f.Span.Lo, g.Span.Lo)
}

// add returns the joined list with the points of f, which is no less than all fragments of the list. So f reaches the last one at most, and span.Join gets two spans, however many the line has.
func add(list []api.Fragment, f api.Fragment) []api.Fragment {
	last := len(list) - 1
	if last < 0 || !line.Same(list[last].Line, f.Line) {
		return append(list, part(f.Line, f.Span))
	}
	joined, _ := span.Join([]api.Span{list[last].Span, f.Span})
	list[last].Span = joined[0]
	return append(list, parts(f.Line, joined[1:])...)
}
