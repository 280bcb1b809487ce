package fragment_test

import (
	"testing"

	"bspregion/api"
	"bspregion/fragment"
	"bspregion/line"
	"bspregion/point"
)

// onOneLine calls test with all pairs of stretches on l, the second one on the line and on its reverse, and with the same fragment of the second one on l.
func onOneLine(l api.Line, test func(r, q stretch, f, g api.Fragment)) {
	for _, r := range stretches() {
		for _, q := range stretches() {
			f := r.on(l, grid())
			test(r, q, f, q.on(l, grid()))
			test(r, q, f, q.mirrored().on(reversed(l), mirrorGrid()))
		}
	}
}

// P7.4: Meet on one line: the end of one is the beginning of the other one, whatever their orientations
func TestMeetOnOneLine(t *testing.T) {
	for _, l := range lines() {
		onOneLine(l, func(r, q stretch, f, g api.Fragment) {
			p, ok, err := fragment.Meet(f, g)
			switch {
			case r.last+1 == q.first:
				checkPoint(t, "Meet", p, ok, err, pointAt(l, grid()[r.last]))
			case q.last+1 == r.first:
				checkPoint(t, "Meet", p, ok, err, pointAt(l, grid()[q.last]))
			default:
				checkNoPoint(t, "Meet", p, ok, err)
			}
		})
	}
}

// checkOverlap demands the fragment want, in all digits, or none if want is empty, and no error.
func checkOverlap(t *testing.T, f, g api.Fragment, want []api.Fragment) {
	t.Helper()
	got, ok, err := fragment.Overlap(f, g)
	if len(want) == 0 {
		checkNoFragment(t, "Overlap", got, ok, err)
		return
	}
	checkFragment(t, "Overlap", got, err, want[0])
	if !ok {
		t.Fatal(show(f, g), ok)
	}
}

// P7.4: Overlap on one line
func TestOverlapOnOneLine(t *testing.T) {
	for _, l := range lines() {
		onOneLine(l, func(r, q stretch, f, g api.Fragment) {
			checkOverlap(t, f, g, r.both(q).list(l, grid()))
		})
	}
}

// P7.4: Meet and Overlap of fragments on lines that cross at a number of both grids
func TestCrossing(t *testing.T) {
	const i, k = 2, 1
	for _, l := range lines() {
		p := pointAt(l, grid()[i])
		for _, m := range []api.Line{crossing(l, p, "0"), reversed(crossing(l, p, "-5/2")), crossing(l, p, far)} {
			// On m, the number k of the grid is at the same point.
			other := shifted(point.Sub(api.Point{X: line.Param(m, p)}, api.Point{X: grid()[k]}).X)
			for _, r := range stretches() {
				for _, q := range stretches() {
					f, g := r.on(l, grid()), q.on(m, other)
					got, ok, err := fragment.Meet(f, g)
					if r.holds(i) && q.holds(k) {
						checkPoint(t, "Meet", got, ok, err, p)
					} else {
						checkNoPoint(t, "Meet", got, ok, err)
					}
					checkOverlap(t, f, g, nil)
				}
			}
		}
	}
}

// P7.4: Meet and Overlap of fragments on parallel lines
func TestParallel(t *testing.T) {
	for _, l := range lines() {
		p := beside(l, line.Base(l), "1/"+far)
		m, _ := line.Through(p, point.Add(p, line.Direction(l)))
		for _, other := range []api.Line{m, reversed(m)} {
			for _, r := range stretches() {
				f, g := r.on(l, grid()), r.on(other, grid())
				got, ok, err := fragment.Meet(f, g)
				checkNoPoint(t, "Meet", got, ok, err)
				checkOverlap(t, f, g, nil)
			}
		}
	}
}

// joinOf is the segment between the points of two texts.
func joinOf(p, q string) api.Fragment {
	f, ok := fragment.FromPoints(at(p), at(q))
	if !ok {
		panic(p)
	}
	return f
}

// P7.4: Meet and Overlap by hand
func TestPairExamples(t *testing.T) {
	for _, c := range []struct {
		f, g    api.Fragment
		meet    string
		overlap []api.Fragment
	}{
		{joinOf("(0,0)", "(2,2)"), joinOf("(0,2)", "(2,0)"), "(1,1)", nil},
		{joinOf("(0,0)", "(2,2)"), joinOf("(2,2)", "(2,0)"), "(2,2)", nil},
		{joinOf("(0,0)", "(2,2)"), joinOf("(1,1)", "(5,0)"), "(1,1)", nil},
		{joinOf("(0,0)", "(2,2)"), joinOf("(3,3)", "(5,0)"), "", nil},
		{joinOf("(0,0)", "(2,0)"), joinOf("(2,0)", "(5,0)"), "(2,0)", nil},
		{joinOf("(0,0)", "(2,0)"), joinOf("(5,0)", "(2,0)"), "(2,0)", nil},
		{joinOf("(0,0)", "(2,0)"), joinOf("(-1,0)", "(0,0)"), "(0,0)", nil},
		{joinOf("(0,0)", "(2,0)"), joinOf("(0,0)", "(-1,0)"), "(0,0)", nil},
		{joinOf("(0,0)", "(2,0)"), joinOf("(3,0)", "(5,0)"), "", nil},
		{joinOf("(0,0)", "(2,0)"), joinOf("(1,0)", "(5,0)"), "", []api.Fragment{joinOf("(1,0)", "(2,0)")}},
		{joinOf("(0,0)", "(2,0)"), joinOf("(5,0)", "(1,0)"), "", []api.Fragment{joinOf("(1,0)", "(2,0)")}},
		{joinOf("(2,0)", "(0,0)"), joinOf("(1,0)", "(5,0)"), "", []api.Fragment{joinOf("(2,0)", "(1,0)")}},
		{joinOf("(0,0)", "(2,0)"), joinOf("(0,1)", "(2,1)"), "", nil},
	} {
		p, ok, err := fragment.Meet(c.f, c.g)
		if c.meet == "" {
			checkNoPoint(t, "Meet", p, ok, err)
		} else {
			checkPoint(t, "Meet", p, ok, err, at(c.meet))
		}
		checkOverlap(t, c.f, c.g, c.overlap)
	}
}

// Consequences: Meet and Overlap are symmetric up to the line that carries the result.
func TestSymmetric(t *testing.T) {
	var list []api.Fragment
	for _, l := range lines() {
		list = append(list, stretch{1, 3}.on(l, grid()), stretch{2, 5}.on(l, grid()), stretch{0, 2}.on(l, grid()))
	}
	for _, f := range list {
		for _, g := range list {
			p, ok, _ := fragment.Meet(f, g)
			q, also, _ := fragment.Meet(g, f)
			if ok != also || !samePoint(p, q) {
				t.Fatal(show(f), show(g), p, q)
			}
			h, ok, _ := fragment.Overlap(f, g)
			k, also, _ := fragment.Overlap(g, f)
			if ok && line.Opposite(f.Line, g.Line) {
				k, _ = fragment.Reverse(k)
			}
			if ok != also || !sameFragment(h, k) {
				t.Fatal(show(f), show(g), show(h), show(k))
			}
		}
	}
}

// P7.4: Meet and Overlap of fragments that are not valid, at each place
func TestPairInvalid(t *testing.T) {
	good := joinOf("(0,2)", "(2,0)")
	for _, bad := range invalidFragments() {
		for _, c := range [][2]api.Fragment{{bad, good}, {good, bad}, {bad, bad}} {
			p, ok, err := fragment.Meet(c[0], c[1])
			checkInvalid(t, "Meet", err)
			checkNoPoint(t, "Meet", p, ok, nil)
			h, ok, err := fragment.Overlap(c[0], c[1])
			checkInvalid(t, "Overlap", err)
			checkNoFragment(t, "Overlap", h, ok, nil)
		}
	}
}
