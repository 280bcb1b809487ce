package fragment

import (
	"bspregion/api"
	"bspregion/line"
	"bspregion/rational"
	"bspregion/span"
)

// Meet returns the only common point of f and g and true, or false if they have none or more than one.
func Meet(f, g api.Fragment) (api.Point, bool, error) {
	if !Valid(f) || !Valid(g) {
		return api.Point{}, false, api.ErrInvalid
	}
	if s, ok := spanOn(f.Line, g); ok {
		p, ok := touch(f, s)
		return p, ok, nil
	}
	p, ok := line.Meet(f.Line, g.Line)
	if !ok || place(f, p) == api.Outside || place(g, p) == api.Outside {
		return api.Point{}, false, nil
	}
	return p, true, nil
}

// spanOn returns the span of g in the parameters of the line l, and true, or false if l has other points than the line of g. It may share the memory of g.
func spanOn(l api.Line, g api.Fragment) (api.Span, bool) {
	switch {
	case line.Same(l, g.Line):
		return g.Span, true
	case line.Opposite(l, g.Line):
		return mirror(g.Span), true
	}
	return api.Span{}, false
}

// touch returns the only common point of f and the part of its line with the span s, and true, or false. As neither of them is a single point, the point is the last one of one of them and the first one of the other one.
func touch(f api.Fragment, s api.Span) (api.Point, bool) {
	switch {
	case !f.Span.NoHi && !s.NoLo && rational.Cmp(f.Span.Hi, s.Lo) == 0:
		return End(f)
	case !f.Span.NoLo && !s.NoHi && rational.Cmp(f.Span.Lo, s.Hi) == 0:
		return Start(f)
	}
	return api.Point{}, false
}

// Overlap returns the part of f that also lies on g, and true, or false if it has no positive length.
func Overlap(f, g api.Fragment) (api.Fragment, bool, error) {
	if !Valid(f) || !Valid(g) {
		return api.Fragment{}, false, api.ErrInvalid
	}
	s, ok := spanOn(f.Line, g)
	if !ok {
		return api.Fragment{}, false, nil
	}
	common, _ := span.Intersect([]api.Span{f.Span}, []api.Span{s})
	if len(common) == 0 {
		return api.Fragment{}, false, nil
	}
	return part(f.Line, common[0]), true, nil
}
