package fragment_test

import (
	"slices"
	"testing"

	"bspregion/api"
	"bspregion/fragment"
	"bspregion/line"
	"bspregion/point"
	"bspregion/rational"
)

// checkSplit demands these parts of f on the left and on the right side of l, in all digits, and no error.
func checkSplit(t *testing.T, f api.Fragment, l api.Line, left, right []api.Fragment) {
	t.Helper()
	gotLeft, gotRight, err := fragment.Split(f, l)
	checkList(t, "left side", gotLeft, err, left...)
	checkList(t, "right side", gotRight, err, right...)
}

// P7.3: Split by lines that cross f, or only its line, at each number of the grid
func TestSplit(t *testing.T) {
	for _, l := range lines() {
		for i, n := range grid() {
			below, above := stretch{0, i}, stretch{i + 1, gridSize}
			for _, lean := range []string{"0", "1", "-7/3", far} {
				m := crossing(l, pointAt(l, n), lean)
				for _, r := range stretches() {
					low, high := r.both(below).list(l, grid()), r.both(above).list(l, grid())
					checkSplit(t, r.on(l, grid()), m, high, low)
					checkSplit(t, r.on(l, grid()), reversed(m), low, high)
				}
			}
		}
	}
}

// P7.3: Split by parallel lines at both sides
func TestSplitParallel(t *testing.T) {
	for _, l := range lines() {
		for _, r := range stretches() {
			f := r.on(l, grid())
			for _, p := range []api.Point{beside(l, line.Base(l), "1/"+far), beside(l, line.Base(l), "100")} {
				m, _ := line.Through(p, point.Add(p, line.Direction(l)))
				checkSplit(t, f, m, nil, []api.Fragment{f})
				checkSplit(t, f, reversed(m), []api.Fragment{f}, nil)
			}
			p := beside(l, line.Base(l), "-3")
			m, _ := line.Through(p, point.Add(p, line.Direction(l)))
			checkSplit(t, f, m, []api.Fragment{f}, nil)
			checkSplit(t, f, reversed(m), nil, []api.Fragment{f})
		}
	}
}

// P7.3: both parts are empty if f lies on the line.
func TestSplitOnLine(t *testing.T) {
	for _, l := range lines() {
		for _, r := range stretches() {
			checkSplit(t, r.on(l, grid()), l, nil, nil)
			checkSplit(t, r.on(l, grid()), reversed(l), nil, nil)
		}
	}
}

// P7.3: Split by hand
func TestSplitExamples(t *testing.T) {
	axis := ln("0", "1", "0")
	part := func(s api.Span) []api.Fragment { return []api.Fragment{{Line: axis, Span: s}} }
	f := part(segment("0", "2"))[0]
	checkSplit(t, f, ln("-1", "0", "1"), part(segment("0", "1")), part(segment("1", "2")))
	checkSplit(t, f, ln("1", "0", "-1"), part(segment("1", "2")), part(segment("0", "1")))
	checkSplit(t, f, ln("1", "0", "0"), part(f.Span), nil)
	checkSplit(t, f, ln("1", "0", "-2"), nil, part(f.Span))
	checkSplit(t, f, ln("3", "5", "-4"), part(segment("4/3", "2")), part(segment("0", "4/3")))
	checkSplit(t, api.Fragment{Line: axis, Span: whole()}, ln("3", "5", "-4"), part(from("4/3")), part(upTo("4/3")))
}

// P7.3: Split of fragments and by lines that are not valid
func TestSplitInvalid(t *testing.T) {
	check := func(f api.Fragment, l api.Line) {
		t.Helper()
		left, right, err := fragment.Split(f, l)
		checkInvalid(t, "Split", err)
		checkList(t, "Split", slices.Concat(left, right), nil)
	}
	for _, f := range invalidFragments() {
		check(f, ln("1", "0", "0"))
		check(f, f.Line)
	}
	for _, l := range invalidLines() {
		check(api.Fragment{Line: ln("0", "1", "0"), Span: segment("0", "1")}, l)
		check(api.Fragment{Line: ln("0", "1", "0"), Span: whole()}, l)
	}
}

// checkCut demands these parts, in all digits, and no error.
func checkCut(t *testing.T, f api.Fragment, points []api.Point, want []api.Fragment) {
	t.Helper()
	got, err := fragment.Cut(f, points)
	checkList(t, "Cut", got, err, want...)
}

// cutAt are the parts of the stretch r, cut at those numbers of the grid whose bit in the mask is set.
func (r stretch) cutAt(mask int, l api.Line, grid []api.Rat) []api.Fragment {
	var list []api.Fragment
	rest := r
	for i := range gridSize {
		if mask>>i&1 == 1 && r.first <= i && i < r.last {
			list = append(list, stretch{rest.first, i}.on(l, grid))
			rest.first = i + 1
		}
	}
	return append(list, rest.on(l, grid))
}

// P7.3: Cut at all sets of numbers of the grid, in descending order and with points beside the line
func TestCut(t *testing.T) {
	for _, l := range lines()[5:] {
		for mask := range 1 << gridSize {
			var points []api.Point
			for i := gridSize - 1; i >= 0; i-- {
				p := pointAt(l, grid()[i])
				if mask>>i&1 == 1 {
					points = append(points, p)
				}
				points = append(points, beside(l, p, "1"), beside(l, p, "-1/"+far))
			}
			for _, r := range stretches() {
				checkCut(t, r.on(l, grid()), points, r.cutAt(mask, l, grid()))
			}
		}
	}
}

// P7.3: without points on f, Cut returns f alone.
func TestCutNowhere(t *testing.T) {
	for _, l := range lines() {
		for _, r := range stretches() {
			f := r.on(l, grid())
			checkCut(t, f, nil, []api.Fragment{f})
			checkCut(t, f, []api.Point{}, []api.Fragment{f})
			checkCut(t, f, []api.Point{beside(l, line.Base(l), "3")}, []api.Fragment{f})
		}
	}
	f := api.Fragment{Line: ln("1", "1", "-2"), Span: segment("-1", "1")}
	checkCut(t, f, []api.Point{at("(0,2)"), at("(2,0)"), at("(3,-1)"), at("(-1,3)"), {}}, []api.Fragment{f})
}

// P7.3: points that are not in normal form or occur several times
func TestCutTwice(t *testing.T) {
	l := ln("0", "1", "-1")
	f := api.Fragment{Line: l, Span: segment("-2", "3")}
	points := []api.Point{
		{X: raw(4, 2), Y: raw(3, 3)}, at("(-1/2,1)"), {X: raw(-2, 4), Y: raw(1, 1, 0)}, at("(2,1)"), {X: raw(7, 0), Y: number("1")}, at("(0,1)"), at("(-1/2,1)"),
	}
	want := []api.Fragment{
		{Line: l, Span: segment("-2", "-1/2")}, {Line: l, Span: segment("-1/2", "0")}, {Line: l, Span: segment("0", "2")}, {Line: l, Span: segment("2", "3")},
	}
	checkCut(t, f, points, want)
}

// P7.3: more parts than a set may have spans, with some points occurring twice
func TestCutMany(t *testing.T) {
	const n = api.MaxSpans + 100
	l := ln("-1", "1", "0") // with the parameter i at (i,i)
	var points []api.Point
	want := []api.Fragment{{Line: l, Span: upTo("0")}}
	for i := range int64(n) {
		// As 1003 is prime to n, these are all the numbers below n, in another order.
		points = append(points, point.FromInts(i*1003%n, i*1003%n), point.FromInts(i, i))
		want = append(want, api.Fragment{Line: l, Span: api.Span{Lo: rational.FromInt(i), Hi: rational.FromInt(i + 1)}})
	}
	want[n].Span = api.Span{Lo: want[n].Span.Lo, NoHi: true}
	checkCut(t, api.Fragment{Line: l, Span: whole()}, points, want)
}

// P7.3: Cut of fragments that are not valid
func TestCutInvalid(t *testing.T) {
	for _, f := range invalidFragments() {
		for _, points := range [][]api.Point{nil, {{}}, {at("(1,1)"), at("(2,0)")}} {
			got, err := fragment.Cut(f, points)
			checkInvalid(t, "Cut", err)
			checkList(t, "Cut", got, nil)
		}
	}
}

// Consequences: the parts of Split and of Cut, joined, give the fragment again.
func TestPartsJoined(t *testing.T) {
	for i, l := range lines() {
		for _, m := range lines()[i+1:] {
			if line.Same(l, m) || line.Opposite(l, m) {
				continue
			}
			for _, r := range stretches() {
				f := r.on(l, grid())
				left, right, _ := fragment.Split(f, m)
				joined, err := fragment.Join(slices.Concat(right, left))
				checkList(t, "Join of Split", joined, err, f)
				parts, _ := fragment.Cut(f, []api.Point{pointAt(l, probe(1)), pointAt(l, probe(4)), pointAt(l, probe(2))})
				slices.Reverse(parts)
				joined, err = fragment.Join(parts)
				checkList(t, "Join of Cut", joined, err, f)
			}
		}
	}
}
