package winding_test

import (
	"slices"
	"testing"

	"bspregion/api"
	"bspregion/point"
	"bspregion/rational"
	"bspregion/ring"
	"bspregion/winding"
)

// fills are the fill rules.
func fills() []int {
	return []int{api.EvenOdd, api.NonZero}
}

// checkClass examines Class of rings at a point q, which is to them what p is to s.
func checkClass(t *testing.T, s system, p spot, rings []api.Ring, q api.Point) {
	t.Helper()
	for _, fill := range fills() {
		class, err := winding.Class(rings, fill, q)
		checkIs(t, "Class", rings, q, class, err, s.class(fill, p))
	}
}

// P10.3: Class of all small rings
func TestClassFew(t *testing.T) {
	few(func(s system) {
		for _, p := range frame(0, 4) {
			checkClass(t, s, p, s.rings(), p.point())
		}
	})
}

// P10.3: Class of lists of rings
func TestClassMany(t *testing.T) {
	many(func(s system) {
		for _, p := range frame(0, 8) {
			checkClass(t, s, p, s.rings(), p.point())
		}
	})
}

// P10.3: Class of rings whose coordinates have many digits
func TestClassLong(t *testing.T) {
	long(func(s system, rings []api.Ring, m mapping) {
		for _, p := range frame(0, 8) {
			checkClass(t, s, p, rings, m.of(p.point()))
		}
	})
}

// classCase is a list of rings, a point, and its class for both fill rules.
type classCase struct {
	rings            []api.Ring
	p                string
	evenOdd, nonZero int
}

// classCases are found by hand.
func classCases() []classCase {
	full, back := square().ring(), square().reversed().ring()
	right := ringOf("(2,0)", "(4,0)", "(4,2)", "(2,2)")
	inner := ringOf("(1/2,1/2)", "(3/2,1/2)", "(3/2,3/2)", "(1/2,3/2)")
	hole := ringOf("(1/2,1/2)", "(1/2,3/2)", "(3/2,3/2)", "(3/2,1/2)")
	spike := ringOf("(0,0)", "(1,0)", "(1,-1)", "(1,0)", "(2,0)", "(2,2)", "(0,2)")
	flat := ringOf("(0,0)", "(1,0)", "(2,0)")
	bow := ringOf("(0,0)", "(2,2)", "(2,0)", "(0,2)")
	return []classCase{
		{nil, "(0,0)", api.Outside, api.Outside},
		{[]api.Ring{full}, "(1,1)", api.Inside, api.Inside},
		{[]api.Ring{full}, "(1,0)", api.Boundary, api.Boundary},
		{[]api.Ring{back}, "(1,0)", api.Boundary, api.Boundary},
		{[]api.Ring{full}, "(0,2)", api.Boundary, api.Boundary},
		{[]api.Ring{full}, "(3,1)", api.Outside, api.Outside},
		{[]api.Ring{full}, "(3,0)", api.Outside, api.Outside},
		{[]api.Ring{full, full}, "(1,1)", api.Outside, api.Inside},
		{[]api.Ring{full, full}, "(1,0)", api.Outside, api.Boundary},
		{[]api.Ring{full, back}, "(1,1)", api.Outside, api.Outside},
		{[]api.Ring{full, back}, "(1,0)", api.Outside, api.Outside},
		{[]api.Ring{full, full, back}, "(1,0)", api.Boundary, api.Boundary},
		// The common edge of two squares is inside, in whichever directions they run, and its ends are not.
		{[]api.Ring{full, right}, "(2,1)", api.Inside, api.Inside},
		{[]api.Ring{back, right}, "(2,1)", api.Inside, api.Inside},
		{[]api.Ring{full, right}, "(2,2)", api.Boundary, api.Boundary},
		{[]api.Ring{full, right}, "(2,0)", api.Boundary, api.Boundary},
		{[]api.Ring{full, inner}, "(1,1)", api.Outside, api.Inside},
		{[]api.Ring{full, inner}, "(1,1/2)", api.Boundary, api.Inside},
		{[]api.Ring{full, inner}, "(1/2,1/2)", api.Boundary, api.Inside},
		{[]api.Ring{full, hole}, "(1,1)", api.Outside, api.Outside},
		{[]api.Ring{full, hole}, "(1,1/2)", api.Boundary, api.Boundary},
		// Edges without an inside next to them
		{[]api.Ring{spike}, "(1,-1)", api.Outside, api.Outside},
		{[]api.Ring{spike}, "(1,-1/2)", api.Outside, api.Outside},
		{[]api.Ring{spike}, "(1,0)", api.Boundary, api.Boundary},
		{[]api.Ring{spike}, "(1,1)", api.Inside, api.Inside},
		{[]api.Ring{flat}, "(1,0)", api.Outside, api.Outside},
		{[]api.Ring{flat}, "(0,0)", api.Outside, api.Outside},
		{[]api.Ring{full, flat}, "(1/2,0)", api.Boundary, api.Boundary},
		{[]api.Ring{full, {point.FromInts(1, 1), at("(3/2,1)"), at("(7/4,1)")}}, "(3/2,1)", api.Inside, api.Inside},
		// Two triangles meet at one point, the left one counterclockwise and the right one clockwise.
		{[]api.Ring{bow}, "(1,1)", api.Boundary, api.Boundary},
		{[]api.Ring{bow}, "(1/2,1)", api.Inside, api.Inside},
		{[]api.Ring{bow}, "(3/2,1)", api.Inside, api.Inside},
		{[]api.Ring{bow}, "(1,3/2)", api.Outside, api.Outside},
		{[]api.Ring{bow, full}, "(1,1)", api.Boundary, api.Boundary},
		{[]api.Ring{bow, full}, "(1/2,1)", api.Outside, api.Inside},
		{[]api.Ring{bow, full}, "(3/2,1)", api.Outside, api.Outside},
		{[]api.Ring{bow, full}, "(1,3/2)", api.Inside, api.Inside},
	}
}

// P10.3: Class by hand
func TestClassExamples(t *testing.T) {
	for _, c := range classCases() {
		for i, want := range []int{c.evenOdd, c.nonZero} {
			class, err := winding.Class(c.rings, fills()[i], at(c.p))
			checkIs(t, "Class", c.rings, at(c.p), class, err, want)
		}
	}
}

// P10.3: Class at a point on many edges, and with the greatest number of rings
func TestClassLimits(t *testing.T) {
	var fan api.Ring
	for i := range int64(api.MaxVertices / 2) {
		fan = append(fan, api.Point{X: rational.FromInt(0), Y: rational.FromInt(0)}, point.FromInts(1000-i, 1000))
	}
	for _, fill := range fills() {
		class, err := winding.Class([]api.Ring{fan}, fill, api.Point{})
		checkIs(t, "Class", nil, api.Point{}, class, err, api.Outside)
		rings := slices.Repeat([]api.Ring{square().ring()}, api.MaxRings)
		class, err = winding.Class(rings, fill, at("(2,1)"))
		checkIs(t, "Class", rings, at("(2,1)"), class, err, map[int]int{api.EvenOdd: api.Outside, api.NonZero: api.Boundary}[fill])
		rings[7] = ringOf("(2,0)", "(4,0)", "(4,2)", "(2,2)")
		class, err = winding.Class(rings, fill, at("(2,1)"))
		checkIs(t, "Class", rings, at("(2,1)"), class, err, api.Inside)
	}
	fan[1] = point.FromInts(1000, 999)
	fan[2] = point.FromInts(999, 1000)
	fan[3] = point.FromInts(998, 1001)
	class, err := winding.Class([]api.Ring{fan}, api.NonZero, api.Point{})
	checkIs(t, "Class", nil, api.Point{}, class, err, api.Boundary)
}

// Consequences: a simple ring that runs counterclockwise has the winding number 1 inside and 0 outside, and its edges are its boundary.
func TestSimple(t *testing.T) {
	few(func(s system) {
		rings := s.rings()
		simple, _ := ring.Simple(rings[0])
		area, _ := ring.Area(rings[0])
		if !simple {
			return
		}
		for _, p := range frame(0, 4) {
			for _, fill := range fills() {
				class, err := winding.Class(rings, fill, p.point())
				on, _ := winding.On(rings, p.point())
				checkIs(t, "boundary", rings, p.point(), class == api.Boundary, err, on)
				n, _ := winding.Number(rings, p.point())
				checkIs(t, "inside", rings, p.point(), class == api.Inside, nil, n != 0)
				if n != 0 && n != rational.Sign(area) {
					t.Fatal(show(rings), p, n)
				}
			}
		}
	})
}

// Rule 3: points need not be in normal form.
func TestClassRaw(t *testing.T) {
	rings := []api.Ring{ringOf("(-1/2,-1)", "(1,-1)", "(1,1)", "(-1/2,1)"), square().ring()}
	for _, p := range somePoints() {
		for _, fill := range fills() {
			class, err := winding.Class(rings, fill, p)
			want, _ := winding.Class(rings, fill, point.Norm(p))
			checkIs(t, "Class", rings, p, class, err, want)
		}
	}
	class, err := winding.Class(rings, api.EvenOdd, api.Point{X: raw(-2, 4, 0), Y: raw(7, 0)})
	checkIs(t, "Class", rings, api.Point{}, class, err, api.Boundary)
}

// The errors of P10.3: those of the rings come before that of the fill rule.
func TestClassErrors(t *testing.T) {
	for _, c := range badLists() {
		for _, fill := range append(otherFills(), fills()...) {
			class, err := winding.Class(c.rings, fill, at("(1,1)"))
			checkKind(t, "Class", c.rings, err, c.kind)
			checkIs(t, "Class with an error", c.rings, at("(1,1)"), class, nil, 0)
		}
	}
	for _, rings := range [][]api.Ring{nil, {square().ring()}, {triangle().ring(), square().ring()}} {
		for _, fill := range otherFills() {
			for _, p := range somePoints() {
				class, err := winding.Class(rings, fill, p)
				checkKind(t, "Class", rings, err, api.ErrInvalid)
				checkIs(t, "Class with an error", rings, p, class, nil, 0)
			}
		}
	}
}
