package convex_test

import (
	"slices"
	"testing"

	"bspregion/api"
	"bspregion/convex"
	"bspregion/line"
)

// P8.2: Place of cells of all kinds
func TestPlace(t *testing.T) {
	for i, l := range many() {
		if i%3 != 0 || l.empty() {
			continue
		}
		for _, r := range l.probes() {
			got, err := convex.Place(l.cell(), r.line())
			checkIs(t, "Place by"+show(rows{r}.cell()), l.cell(), got, err, l.place(r))
		}
	}
}

// P8.2: Place of cells with few sides, in all orders
func TestPlaceFew(t *testing.T) {
	few(func(l rows) {
		if l.empty() || len(l) == 3 && l[1][0] != 1 {
			return
		}
		for _, r := range family(1, 1) {
			got, err := convex.Place(l.cell(), r.line())
			checkIs(t, "Place by"+show(rows{r}.cell()), l.cell(), got, err, l.place(r))
		}
	})
}

// P8.2: Place by hand
func TestPlaceExamples(t *testing.T) {
	square := polygon(points("(0,0)", "(2,0)", "(2,2)", "(0,2)"))
	half, strip := cell(ln("0", "1", "0")), cell(ln("0", "1", "0"), ln("0", "-1", "3"))
	for _, c := range []struct {
		c    api.Cell
		l    api.Line
		want int
	}{
		{api.Cell{}, ln("0", "1", "0"), 0},
		{half, ln("0", "1", "0"), 1}, {half, ln("0", "-1", "0"), -1}, {half, ln("0", "1", "1"), 1}, {half, ln("0", "-1", "-1"), -1},
		{half, ln("0", "1", "-1"), 0}, {half, ln("0", "-1", "1"), 0}, {half, ln("1", far, "0"), 0},
		{strip, ln("0", "1", "0"), 1}, {strip, ln("0", "1", "-3"), -1}, {strip, ln("0", "1", "-2"), 0}, {strip, ln("0", "-1", "2"), 0}, {strip, ln("0", "-1", "3"), 1}, {strip, ln("0", "-1", "0"), -1}, {strip, ln("1", far, "0"), 0},
		{square, ln("1", "1", "0"), 1}, {square, ln("-1", "-1", "0"), -1}, {square, ln("1", "1", "-4"), -1}, {square, ln("1", "-1", "0"), 0},
		{square, ln(far, "1", "-1"), 0}, {square, ln(far, "1", "0"), 1}, {square, ln("1", "0", "-2"), -1}, {square, ln("1", "0", "-1"), 0},
	} {
		got, err := convex.Place(c.c, c.l)
		checkIs(t, "Place", c.c, got, err, c.want)
	}
}

// P8.2: Place of a polygon with the greatest number of sides, by lines through its vertices and just beside them
func TestPlaceLimit(t *testing.T) {
	vertices := polygonPoints(api.MaxSides)
	c := polygon(vertices)
	for i := 0; i < api.MaxSides; i += 97 {
		for _, r := range []row{{0, 1, 0}, {3, 1, 0}, {-17, 100, 0}} {
			l := r.line()
			for _, p := range []api.Point{vertices[i], middle(vertices, i)} {
				m := enlarge(l, number("1"), p)
				var sides []int
				for _, q := range vertices {
					sides = append(sides, line.Side(m, q))
				}
				want := 0
				switch {
				case !slices.Contains(sides, -1):
					want = 1
				case !slices.Contains(sides, 1):
					want = -1
				}
				got, err := convex.Place(c, m)
				checkIs(t, "Place", cell(m), got, err, want)
			}
		}
	}
}

// P8.3: Class of the points of a grid and of the common points of sides
func TestClass(t *testing.T) {
	for i, l := range many() {
		if i%3 != 0 {
			continue
		}
		c, empty := l.cell(), l.empty()
		probes := l[:min(len(l), 5)].corners()
		for x := int64(-4); x <= 4; x += 2 {
			for y := int64(-3); y <= 3; y++ {
				probes = append(probes, row{x, y, 2}, row{6 * x, 2 * y, 2})
			}
		}
		for _, p := range probes {
			got, err := convex.Class(c, p.point())
			checkIs(t, "Class", c, got, err, l.class(p, empty))
		}
	}
}

// P8.3: Class of cells with few sides, at points on many of them
func TestClassFew(t *testing.T) {
	few(func(l rows) {
		c, empty := l.cell(), l.empty()
		for _, p := range []row{{0, 0, 1}, {1, 0, 1}, {1, 1, 2}, {-1, 1, 1}, {0, -3, 1}, {5, 7, 1}} {
			got, err := convex.Class(c, p.point())
			checkIs(t, "Class", c, got, err, l.class(p, empty))
		}
	})
}

// P8.3: Class by hand, also of points that are not in normal form
func TestClassExamples(t *testing.T) {
	square := polygon(points("(0,0)", "(2,0)", "(2,2)", "(0,2)"))
	square.Sides = append(square.Sides, ln("1", "1", "0"))
	for _, c := range []struct {
		p    api.Point
		want int
	}{
		{api.Point{X: raw(2, 2), Y: raw(3, 2)}, api.Inside}, {api.Point{X: raw(4, 2), Y: raw(3, 2)}, api.Boundary}, {api.Point{X: raw(4, 2), Y: raw(5, 2)}, api.Outside},
		{api.Point{}, api.Boundary}, {api.Point{X: raw(7, 0), Y: raw(2, 2, 0)}, api.Boundary}, {api.Point{X: raw(-4, 2), Y: raw(2, 1)}, api.Outside},
		{at("(1,1/" + far + ")"), api.Inside}, {at("(1,-1/" + far + ")"), api.Outside}, {at("(2,2)"), api.Boundary}, {at("(0,3)"), api.Outside},
	} {
		got, err := convex.Class(square, c.p)
		checkIs(t, "Class", square, got, err, c.want)
		got, err = convex.Class(api.Cell{}, c.p)
		checkIs(t, "Class", api.Cell{}, got, err, api.Inside)
	}
	for _, c := range emptyCells() {
		for _, p := range points("(0,0)", "(0,1)", "(1,0)", "(-1,0)", "(1,1)") {
			got, err := convex.Class(c, p)
			checkIs(t, "Class", c, got, err, api.Outside)
		}
	}
}
