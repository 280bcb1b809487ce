package convex_test

import (
	"slices"
	"testing"

	"bspregion/api"
	"bspregion/convex"
	"bspregion/line"
	"bspregion/point"
	"bspregion/rational"
)

// checkValues examines Vertices, Bounded, Area and Inner of a cell with an interior.
func checkValues(t *testing.T, l rows) {
	t.Helper()
	c, canon := l.cell(), l.canon()
	vertices, err := convex.Vertices(c)
	checkPoints(t, "Vertices of"+show(c), vertices, err, canon.vertices())
	bounded, err := convex.Bounded(c)
	checkIs(t, "Bounded", c, bounded, err, l.bounded())
	area, err := convex.Area(c)
	if bounded {
		checkRat(t, "Area", area, err, areaOf(vertices))
	} else {
		checkKind(t, "Area", err, api.ErrUnbounded)
		checkRat(t, "Area", area, nil, api.Rat{})
	}
	p, err := convex.Inner(c)
	checkInside(t, c, p, err)
}

// checkInside demands that p is a point of the interior in normal form, and no error.
func checkInside(t *testing.T, c api.Cell, p api.Point, err error) {
	t.Helper()
	if err != nil || !point.Normal(p) || slices.ContainsFunc(c.Sides, func(l api.Line) bool { return line.Side(l, p) <= 0 }) {
		t.Fatal("Inner of", show(c), point.Format(p), err)
	}
}

// areaOf is the area of the polygon, the sum of those of the triangles with its first vertex.
func areaOf(vertices []api.Point) api.Rat {
	sum := rational.FromInt(0)
	for i := 2; i < len(vertices); i++ {
		u, v := point.Sub(vertices[i-1], vertices[0]), point.Sub(vertices[i], vertices[0])
		sum = rational.Add(sum, rational.Mul(number("1/2"), point.Cross(u, v)))
	}
	return sum
}

// P8.4, P8.5: cells of few sides, in all orders
func TestValuesFew(t *testing.T) {
	few(func(l rows) {
		if !l.empty() {
			checkValues(t, l)
		}
	})
}

// P8.4, P8.5: cells of more sides
func TestValuesMany(t *testing.T) {
	for _, l := range many() {
		if !l.empty() {
			checkValues(t, l)
		}
	}
}

// P8.4: Vertices and Bounded by hand
func TestVertices(t *testing.T) {
	up, left, down, right := ln("0", "1", "0"), ln("-1", "0", "1"), ln("0", "-1", "1"), ln("1", "0", "0")
	for _, c := range []struct {
		c       api.Cell
		want    []api.Point
		bounded bool
	}{
		{cell(up, left, down, right), points("(1,0)", "(1,1)", "(0,1)", "(0,0)"), true},
		{cell(down, right, up, ln("-1", "-1", "2"), left), points("(1,0)", "(1,1)", "(0,1)", "(0,0)"), true},
		{api.Cell{}, nil, false},
		{cell(up), nil, false},
		{cell(up, down), nil, false},
		{cell(down, up), nil, false},
		{cell(up, right), points("(0,0)"), false},
		{cell(up, left), points("(1,0)"), false},
		{cell(left, down), points("(1,1)"), false},
		{cell(down, right), points("(0,1)"), false},
		{cell(down, up, right), points("(0,1)", "(0,0)"), false},
		{cell(up, left, down), points("(1,0)", "(1,1)"), false},
		{cell(left, down, right), points("(1,1)", "(0,1)"), false},
		{cell(left, right, up), points("(1,0)", "(0,0)"), false},
		{cell(up, ln("-3", "-5", "7"), ln(far, "1", "0")), []api.Point{at("(7/3,0)"), at("(-7/49999999999999999999999999999999999999997,70000000000000000000000000000000000000000/49999999999999999999999999999999999999997)"), at("(0,0)")}, true},
	} {
		got, err := convex.Vertices(c.c)
		checkPoints(t, "Vertices of"+show(c.c), got, err, c.want)
		bounded, err := convex.Bounded(c.c)
		checkIs(t, "Bounded", c.c, bounded, err, c.bounded)
	}
}

// P8.5: Area by hand
func TestArea(t *testing.T) {
	for _, c := range []struct {
		vertices []api.Point
		want     string
	}{
		{points("(0,0)", "(1,0)", "(1,1)", "(0,1)"), "1"},
		{points("(-1,-1)", "(2,-1)", "(2,1)", "(-1,1)"), "6"},
		{points("(5,5)", "(6,5)", "(5,6)"), "1/2"},
		{points("(0,0)", "(1/3,0)", "(1/3,1/7)"), "1/42"},
		{points("(0,0)", "("+far+",0)", "(0,1/"+far+")"), "1/2"},
	} {
		got, err := convex.Area(polygon(c.vertices))
		checkRat(t, "Area", got, err, number(c.want))
	}
}

// P8.4, P8.5: the polygon with the greatest number of sides, and what is left of it without a side
func TestValuesLimit(t *testing.T) {
	vertices := polygonPoints(api.MaxSides)
	c := polygon(vertices)
	got, err := convex.Vertices(c)
	checkPoints(t, "Vertices", got, err, append(slices.Clone(vertices[1:]), vertices[0]))
	bounded, err := convex.Bounded(c)
	checkIs(t, "Bounded", c, bounded, err, true)
	area, err := convex.Area(c)
	checkRat(t, "Area", area, err, areaOf(vertices))
	p, err := convex.Inner(c)
	checkInside(t, c, p, err)
	// The other sides of half the polygon are missing.
	open := cell(c.Sides[:api.MaxSides/2+1]...)
	got, err = convex.Vertices(open)
	checkPoints(t, "Vertices", got, err, vertices[1:api.MaxSides/2+1])
	bounded, err = convex.Bounded(open)
	checkIs(t, "Bounded", open, bounded, err, false)
	area, err = convex.Area(open)
	checkKind(t, "Area", err, api.ErrUnbounded)
	checkRat(t, "Area", area, nil, api.Rat{})
	p, err = convex.Inner(open)
	checkInside(t, open, p, err)
}

// P8.5: Area and Inner of cells far away, thin ones and large ones
func TestValuesLong(t *testing.T) {
	for _, l := range many()[900:1200] {
		if l.empty() {
			continue
		}
		for _, s := range []api.Rat{number(far), number("7/" + far)} {
			c := mapped(l.cell(), func(l api.Line) api.Line { return lean(enlarge(l, s, at("(-1/3,"+far+")")), s) })
			p, err := convex.Inner(c)
			checkInside(t, c, p, err)
			if l.bounded() {
				small, _ := convex.Area(l.cell())
				area, err := convex.Area(c)
				checkRat(t, "Area", area, err, rational.Mul(rational.Mul(s, s), small))
			}
		}
	}
}
