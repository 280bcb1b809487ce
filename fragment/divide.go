package fragment

import (
	"slices"

	"bspregion/api"
	"bspregion/line"
	"bspregion/point"
	"bspregion/rational"
	"bspregion/span"
)

// Split returns the part of f on the left side of l and that on the right side, as far as they have positive length.
func Split(f api.Fragment, l api.Line) ([]api.Fragment, []api.Fragment, error) {
	if !Valid(f) || !line.Valid(l) {
		return nil, nil, api.ErrInvalid
	}
	if line.Same(f.Line, l) || line.Opposite(f.Line, l) {
		return nil, nil, nil
	}
	whole, side := []api.Span{f.Span}, leftOf(l, f.Line)
	left, _ := span.Intersect(whole, side)
	right, _ := span.Subtract(whole, side)
	return parts(f.Line, left), parts(f.Line, right), nil
}

// leftOf returns the set of the parameters of the points of m, which has other points than l, on the left side of l.
func leftOf(l, m api.Line) []api.Span {
	crossing, _ := line.Meet(l, m)
	t := line.Param(m, crossing)
	switch rational.Sign(point.Cross(line.Direction(l), line.Direction(m))) {
	case 1:
		return []api.Span{{Lo: t, NoHi: true}}
	case -1:
		return []api.Span{{Hi: t, NoLo: true}}
	}
	if line.Side(l, line.Base(m)) > 0 {
		return []api.Span{{NoLo: true, NoHi: true}}
	}
	return nil
}

// parts are the fragments of the line l with the spans of a set, in new memory.
func parts(l api.Line, set []api.Span) []api.Fragment {
	var list []api.Fragment
	for _, s := range set {
		list = append(list, part(l, s))
	}
	return list
}

// Cut returns the parts of f between those of the points that lie on f and are no ends of it, in ascending order.
func Cut(f api.Fragment, points []api.Point) ([]api.Fragment, error) {
	if !Valid(f) {
		return nil, api.ErrInvalid
	}
	var set []api.Span
	rest := f.Span
	for _, t := range cuts(f, points) {
		piece := rest
		piece.Hi, piece.NoHi = t, false
		rest.Lo, rest.NoLo = t, false
		set = append(set, piece)
	}
	return parts(f.Line, append(set, rest)), nil
}

// cuts are the parameters of the points that lie on f and are no ends of it, ascending, each once.
func cuts(f api.Fragment, points []api.Point) []api.Rat {
	var list []api.Rat
	for _, p := range points {
		if place(f, p) == api.Inside {
			list = append(list, line.Param(f.Line, p))
		}
	}
	slices.SortFunc(list, rational.Cmp)
	return slices.CompactFunc(list, func(a, b api.Rat) bool { return rational.Cmp(a, b) == 0 })
}
