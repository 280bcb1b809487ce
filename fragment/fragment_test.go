package fragment_test

import (
	"testing"

	"bspregion/api"
	"bspregion/fragment"
	"bspregion/line"
	"bspregion/point"
	"bspregion/rational"
)

// P7.1: Valid
func TestValid(t *testing.T) {
	for _, l := range lines() {
		for _, r := range stretches() {
			if f := r.on(l, grid()); !fragment.Valid(f) {
				t.Fatal(show(f))
			}
		}
	}
	for _, f := range invalidFragments() {
		if fragment.Valid(f) {
			t.Fatal(f)
		}
	}
}

// P7.1, rule 2: a number without digits may have a slice that is not nil.
func TestValidEmptySlices(t *testing.T) {
	end := api.Rat{Num: api.Int{Abs: api.Nat{}}, Den: api.Nat{}}
	l := api.Line{A: integerOf("1"), B: api.Int{Abs: api.Nat{}}, C: api.Int{Abs: api.Nat{}}}
	f := api.Fragment{Line: l, Span: api.Span{Lo: end, NoLo: true, Hi: end, NoHi: true}}
	if !fragment.Valid(f) {
		t.Error(f)
	}
}

// P7.1: FromPoints by hand
func TestFromPointsExamples(t *testing.T) {
	for _, c := range []struct {
		p, q api.Point
		l    api.Line
		s    api.Span
	}{
		{at("(0,0)"), at("(2,0)"), ln("0", "1", "0"), segment("0", "2")},
		{at("(2,0)"), at("(0,0)"), ln("0", "-1", "0"), segment("-2", "0")},
		{at("(1,1)"), at("(1,5/2)"), ln("-1", "0", "1"), segment("1", "5/2")},
		{at("(2,0)"), at("(1,1)"), ln("-1", "-1", "2"), segment("-1", "0")},
		{at("(0,3)"), at("(6,0)"), ln("1", "2", "-6"), segment("-3/5", "12/5")},
		{api.Point{}, api.Point{X: raw(4, 2), Y: raw(7, 0)}, ln("0", "1", "0"), segment("0", "2")},
	} {
		f, ok := fragment.FromPoints(c.p, c.q)
		if !ok {
			t.Fatal(c)
		}
		checkFragment(t, "FromPoints", f, nil, api.Fragment{Line: c.l, Span: c.s})
	}
}

// P7.1: FromPoints of one point
func TestFromPointsSame(t *testing.T) {
	for _, c := range []struct{ p, q api.Point }{
		{api.Point{}, api.Point{}},
		{at("(0,0)"), api.Point{X: raw(7, 0), Y: raw(0, 3)}},
		{at("(1/2,-3)"), api.Point{X: raw(2, 4), Y: raw(-6, 2)}},
	} {
		f, ok := fragment.FromPoints(c.p, c.q)
		checkNoFragment(t, "FromPoints", f, ok, nil)
	}
}

// samplePoints are points of all quadrants, some not in normal form, and some equal.
func samplePoints() []api.Point {
	coordinates := []api.Rat{{}, number("1"), raw(-2, 4), number("7/3"), number(far), raw(-3, 7, 0), number("-1/" + far), raw(7, 0)}
	var list []api.Point
	for _, x := range coordinates {
		for _, y := range coordinates {
			list = append(list, api.Point{X: x, Y: y})
		}
	}
	return list
}

// P7.1: the segment of two points is valid, runs from one to the other and turns round with them.
func TestFromPoints(t *testing.T) {
	for _, p := range samplePoints() {
		for _, q := range samplePoints() {
			f, ok := fragment.FromPoints(p, q)
			if point.Same(p, q) {
				checkNoFragment(t, "FromPoints", f, ok, nil)
				continue
			}
			if !ok || !fragment.Valid(f) {
				t.Fatal(p, q, f, ok)
			}
			start, ok := fragment.Start(f)
			checkPoint(t, "Start", start, ok, nil, point.Norm(p))
			end, ok := fragment.End(f)
			checkPoint(t, "End", end, ok, nil, point.Norm(q))
			if !point.Same(point.Primitive(line.Direction(f.Line)), point.Primitive(point.Sub(q, p))) {
				t.Fatal(p, q, show(f))
			}
			back, _ := fragment.FromPoints(q, p)
			reverse, err := fragment.Reverse(f)
			checkFragment(t, "Reverse", reverse, err, back)
		}
	}
}

// pointAt is the point of l with the parameter t, by the definition of the parameter.
func pointAt(l api.Line, t api.Rat) api.Point {
	return point.Add(line.Base(l), point.Scale(t, line.Direction(l)))
}

// P7.1: Start and End
func TestEnds(t *testing.T) {
	for _, l := range lines() {
		for _, r := range stretches() {
			f := r.on(l, grid())
			if p, ok := fragment.Start(f); r.first == 0 {
				checkNoPoint(t, "Start", p, ok, nil)
			} else {
				checkPoint(t, "Start", p, ok, nil, pointAt(l, grid()[r.first-1]))
			}
			if p, ok := fragment.End(f); r.last == gridSize {
				checkNoPoint(t, "End", p, ok, nil)
			} else {
				checkPoint(t, "End", p, ok, nil, pointAt(l, grid()[r.last]))
			}
		}
	}
}

// P7.1: Start and End of fragments that are not valid
func TestEndsInvalid(t *testing.T) {
	for _, f := range invalidFragments() {
		p, ok := fragment.Start(f)
		checkNoPoint(t, "Start", p, ok, nil)
		p, ok = fragment.End(f)
		checkNoPoint(t, "End", p, ok, nil)
	}
}

// P7.1: Reverse, and the consequence that reversing twice gives the fragment again
func TestReverse(t *testing.T) {
	for _, l := range lines() {
		for _, r := range stretches() {
			f := r.on(l, grid())
			g, err := fragment.Reverse(f)
			checkFragment(t, "Reverse", g, err, r.mirrored().on(reversed(l), mirrorGrid()))
			h, err := fragment.Reverse(g)
			checkFragment(t, "Reverse twice", h, err, f)
			if p, ok := fragment.Start(f); ok {
				q, ok := fragment.End(g)
				checkPoint(t, "End of the reverse", q, ok, nil, p)
			}
		}
	}
}

// P7.1: Reverse of fragments that are not valid
func TestReverseInvalid(t *testing.T) {
	for _, f := range invalidFragments() {
		g, err := fragment.Reverse(f)
		checkInvalid(t, "Reverse", err)
		checkNoFragment(t, "Reverse", g, false, nil)
	}
}

// checkContains demands this answer and no error.
func checkContains(t *testing.T, f api.Fragment, p api.Point, want bool) {
	t.Helper()
	if got, err := fragment.Contains(f, p); err != nil || got != want {
		t.Fatal(show(f), point.Format(p), got, err)
	}
}

// P7.2: Contains, at the numbers of the grid, between them and beside the line
func TestContains(t *testing.T) {
	for _, l := range lines() {
		for _, r := range stretches() {
			f := r.on(l, grid())
			for i, n := range grid() {
				p := pointAt(l, n)
				checkContains(t, f, p, r.holds(i))
				checkContains(t, f, beside(l, p, "1/"+far), false)
				checkContains(t, f, beside(l, p, "-1"), false)
			}
			for i := range gaps {
				checkContains(t, f, pointAt(l, probe(i)), r.first <= i && i <= r.last)
			}
		}
	}
}

// P7.2: Contains of points that are not in normal form, and of points just beyond the ends
func TestContainsExamples(t *testing.T) {
	f := api.Fragment{Line: ln("1", "1", "-2"), Span: segment("-1", "1/2")} // from (0,2) to (3/2,1/2)
	for _, c := range []struct {
		p    api.Point
		want bool
	}{
		{at("(0,2)"), true}, {api.Point{Y: raw(4, 2)}, true}, {api.Point{X: raw(7, 0), Y: raw(4, 2, 0)}, true}, {api.Point{X: raw(6, 4), Y: raw(2, 4)}, true},
		{api.Point{X: raw(2, 2), Y: raw(3, 3)}, true}, {at("(-1/1000,2001/1000)"), false}, {at("(1501/1000,499/1000)"), false},
		{at("(1,1001/1000)"), false}, {api.Point{}, false}, {at("(2,0)"), false},
	} {
		checkContains(t, f, c.p, c.want)
	}
}

// P7.2: Contains of fragments that are not valid
func TestContainsInvalid(t *testing.T) {
	for _, f := range invalidFragments() {
		got, err := fragment.Contains(f, api.Point{X: rational.FromInt(1), Y: rational.FromInt(1)})
		checkInvalid(t, "Contains", err)
		if got {
			t.Fatal(f)
		}
	}
}
