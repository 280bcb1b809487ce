package convex_test

import (
	"slices"
	"testing"

	"bspregion/api"
	"bspregion/convex"
	"bspregion/line"
	"bspregion/point"
	"bspregion/rational"
)

// P8.1: Valid
func TestValid(t *testing.T) {
	full := cell(slices.Repeat([]api.Line{ln("1", "0", "0")}, api.MaxSides)...)
	cells := append(emptyCells(), api.Cell{}, cell([]api.Line{}...), full, polygon(polygonPoints(api.MaxSides)), many()[0].cell())
	for _, c := range cells {
		if !convex.Valid(c) {
			t.Fatal(show(c))
		}
	}
	for _, c := range invalidCells() {
		if convex.Valid(c) {
			t.Fatal(c)
		}
	}
}

// checkCanon examines Empty and Canon.
func checkCanon(t *testing.T, l rows) {
	t.Helper()
	c := l.cell()
	empty, err := convex.Empty(c)
	checkIs(t, "Empty", c, empty, err, l.empty())
	got, err := convex.Canon(c)
	if l.empty() {
		checkKind(t, "Canon of"+show(c), err, api.ErrEmpty)
		checkCell(t, "Canon", got, nil, api.Cell{})
		return
	}
	checkCell(t, "Canon of"+show(c), got, err, l.canon().cell())
}

// P8.1: Empty and Canon of all cells of few sides, in all orders
func TestCanonFew(t *testing.T) {
	few(func(l rows) { checkCanon(t, l) })
}

// P8.1: Empty and Canon of cells of more sides
func TestCanonMany(t *testing.T) {
	for _, l := range many() {
		checkCanon(t, l)
	}
}

// P8.1: Empty and Canon by hand
func TestCanonExamples(t *testing.T) {
	up, left, down, right := ln("0", "1", "0"), ln("-1", "0", "1"), ln("0", "-1", "1"), ln("1", "0", "0")
	square := cell(up, left, down, right)
	for _, c := range []struct{ c, want api.Cell }{
		{cell(), cell()},
		{cell(left), cell(left)},
		{cell(left, left), cell(left)},
		{cell(ln("0", "1", "1"), up), cell(up)},
		{cell(down, up), cell(up, down)},
		{cell(right, up), cell(up, right)},
		{square, square},
		{cell(right, down, left, up), square},
		{cell(right, ln("1", "1", "0"), down, ln("0", "-1", "2"), left, up, ln("-1", "-1", "2"), right), square},
		{cell(ln("-1", "-1", "1"), ln("1", "-1", "1"), up, left, right), cell(up, ln("-1", "-1", "1"), right)},
		{cell(ln(far, "1", "-1"), ln("0", "1", "-2"), ln("-"+far, "1", "-1")), cell(ln("0", "1", "-2"), ln("-"+far, "1", "-1"), ln(far, "1", "-1"))},
	} {
		got, err := convex.Canon(c.c)
		checkCell(t, "Canon", got, err, c.want)
	}
	for _, c := range emptyCells() {
		empty, err := convex.Empty(c)
		checkIs(t, "Empty", c, empty, err, true)
	}
	thin := cell(up, ln("0", "-"+far, "1"))
	empty, err := convex.Empty(thin)
	checkIs(t, "Empty", thin, empty, err, false)
}

// P8.1: numbers of many digits. An enlarged cell has the enlarged sides in the same order, and in one that leans they still are in the same cyclic order.
func TestCanonLong(t *testing.T) {
	for _, l := range many()[900:1200] {
		if l.empty() {
			continue
		}
		for _, s := range []api.Rat{number(far), number("7/" + far)} {
			big := func(l api.Line) api.Line { return enlarge(l, s, at("(-1/3,"+far+")")) }
			got, err := convex.Canon(mapped(l.cell(), big))
			checkCell(t, "enlarged", got, err, mapped(l.canon().cell(), big))
			oblique := func(l api.Line) api.Line { return lean(l, s) }
			got, err = convex.Canon(mapped(l.cell(), oblique))
			checkRotation(t, got, err, mapped(l.canon().cell(), oblique))
		}
	}
}

// checkRotation demands the sides of want from some side on, round to the one before it, in the order of their angles, and no error.
func checkRotation(t *testing.T, got api.Cell, err error, want api.Cell) {
	t.Helper()
	direction := func(l, m api.Line) int { return point.Angle(line.Direction(l), line.Direction(m)) }
	slices.SortFunc(want.Sides, direction)
	checkCell(t, "leaning", got, err, want)
}

// P8.1: the canonical cell with the greatest number of sides, given in any order
func TestCanonLimit(t *testing.T) {
	c := polygon(polygonPoints(api.MaxSides))
	got, err := convex.Canon(c)
	checkCell(t, "Canon", got, err, c)
	other := api.Cell{}
	for i := range api.MaxSides {
		// As 387 is odd, these are all the sides.
		other.Sides = append(other.Sides, c.Sides[i*387%api.MaxSides])
	}
	got, err = convex.Canon(other)
	checkCell(t, "Canon of another order", got, err, c)
	slices.Reverse(other.Sides)
	other.Sides[0] = ln("0", "1", far)
	got, err = convex.Canon(other)
	if err != nil || len(got.Sides) != api.MaxSides-1 {
		t.Fatal(len(got.Sides), err)
	}
}

// P8.1: Clip of cells of all kinds
func TestClip(t *testing.T) {
	for i, l := range many() {
		if i%5 != 0 || l.empty() {
			continue
		}
		for _, r := range l.probes() {
			got, err := convex.Clip(l.cell(), r.line())
			if l.with(r).empty() {
				checkKind(t, "Clip", err, api.ErrEmpty)
				checkCell(t, "Clip", got, nil, api.Cell{})
				continue
			}
			checkCell(t, "Clip of"+show(l.cell())+" by"+show(rows{r}.cell()), got, err, l.with(r).canon().cell())
		}
	}
}

// P8.1: Clip of canonical cells with few sides, where all corners may be infinitely far away
func TestClipFew(t *testing.T) {
	few(func(l rows) {
		if l.empty() || len(l) == 3 && l[0][0] != 1 {
			return
		}
		c, canon := l.canon().cell(), l.canon()
		for _, r := range family(1, 1) {
			got, err := convex.Clip(c, r.line())
			if canon.with(r).empty() {
				checkKind(t, "Clip", err, api.ErrEmpty)
				checkCell(t, "Clip", got, nil, api.Cell{})
				continue
			}
			checkCell(t, "Clip of"+show(c)+" by"+show(rows{r}.cell()), got, err, canon.with(r).canon().cell())
		}
	})
}

// P8.1: Clip returns ErrLimit exactly if the canonical cell of the result has more than MaxSides sides.
func TestClipLimit(t *testing.T) {
	vertices := polygonPoints(api.MaxSides)
	c := polygon(vertices)
	for _, edge := range []int{0, 500, api.MaxSides - 2, api.MaxSides - 1} {
		for lost := range 3 {
			l := through(middle(vertices, edge), middle(vertices, edge+lost+1))
			got, err := convex.Clip(c, l)
			if lost == 0 {
				checkKind(t, "Clip", err, api.ErrLimit)
				checkCell(t, "Clip", got, nil, api.Cell{})
			} else if err != nil || len(got.Sides) != api.MaxSides+1-lost || !slices.ContainsFunc(got.Sides, func(m api.Line) bool { return sameLine(l, m) }) {
				t.Fatal(edge, lost, len(got.Sides), err)
			}
			got, err = convex.Clip(c, line.Reverse(l))
			if err != nil || len(got.Sides) != lost+3 {
				t.Fatal(edge, lost, show(got), err)
			}
		}
	}
	got, err := convex.Clip(c, ln("0", "1", "1"))
	checkCell(t, "Clip by a line beside the cell", got, err, c)
	got, err = convex.Clip(c, ln("0", "-1", "0"))
	checkKind(t, "Clip by the reverse of a side", err, api.ErrEmpty)
	checkCell(t, "Clip", got, nil, api.Cell{})
	full := cell(slices.Repeat(c.Sides[:1], api.MaxSides)...)
	got, err = convex.Clip(full, c.Sides[1])
	checkCell(t, "Clip of one side, many times", got, err, cell(c.Sides[:2]...))
}

// checkErrors demands that all functions that need cells with an interior return this error and zero values.
func checkErrors(t *testing.T, c api.Cell, l api.Line, want error) {
	t.Helper()
	got, err := convex.Clip(c, l)
	checkKind(t, "Clip", err, want)
	checkCell(t, "Clip", got, nil, api.Cell{})
	place, err := convex.Place(c, l)
	checkKind(t, "Place", err, want)
	checkIs(t, "Place", c, place, nil, 0)
	got, err = convex.Canon(c)
	checkKind(t, "Canon", err, want)
	checkCell(t, "Canon", got, nil, api.Cell{})
	list, err := convex.Vertices(c)
	checkKind(t, "Vertices", err, want)
	checkPoints(t, "Vertices", list, nil, nil)
	bounded, err := convex.Bounded(c)
	checkKind(t, "Bounded", err, want)
	checkIs(t, "Bounded", c, bounded, nil, false)
	area, err := convex.Area(c)
	checkKind(t, "Area", err, want)
	checkRat(t, "Area", area, nil, api.Rat{})
	p, err := convex.Inner(c)
	checkKind(t, "Inner", err, want)
	checkPoints(t, "Inner", []api.Point{p}, nil, []api.Point{{}})
}

// P8.1 to P8.5: cells and lines that are not valid, also if the interior is empty
func TestInvalid(t *testing.T) {
	for _, c := range invalidCells() {
		checkErrors(t, c, ln("1", "1", "1"), api.ErrInvalid)
		empty, err := convex.Empty(c)
		checkKind(t, "Empty", err, api.ErrInvalid)
		checkIs(t, "Empty", c, empty, nil, false)
		class, err := convex.Class(c, at("(1,1)"))
		checkKind(t, "Class", err, api.ErrInvalid)
		checkIs(t, "Class", c, class, nil, 0)
	}
	for _, c := range append(emptyCells(), invalidCells()[0], api.Cell{}, cell(ln("1", "1", "1")), polygon(polygonPoints(4))) {
		for _, l := range invalidLines() {
			got, err := convex.Clip(c, l)
			checkKind(t, "Clip", err, api.ErrInvalid)
			checkCell(t, "Clip", got, nil, api.Cell{})
			place, err := convex.Place(c, l)
			checkKind(t, "Place", err, api.ErrInvalid)
			checkIs(t, "Place", c, place, nil, 0)
		}
	}
}

// P8.1 to P8.5: cells with an empty interior
func TestEmptyInterior(t *testing.T) {
	for _, c := range emptyCells() {
		checkErrors(t, c, ln("1", "1", "1"), api.ErrEmpty)
		checkErrors(t, c, line.Reverse(c.Sides[0]), api.ErrEmpty)
	}
}

// Consequences: Canon of a canonical cell is the cell, and the areas of both parts of a cell add up to its area.
func TestConsequences(t *testing.T) {
	for _, l := range many()[1000:] {
		c, _ := convex.Canon(l.cell())
		again, err := convex.Canon(c)
		checkCell(t, "Canon of a canonical cell", again, err, c)
		area, err := convex.Area(c)
		if err != nil {
			continue
		}
		r := row{1, -2, 1}
		if l.place(r) == 0 {
			left, _ := convex.Clip(c, r.line())
			right, _ := convex.Clip(c, r.reverse().line())
			leftArea, _ := convex.Area(left)
			rightArea, err := convex.Area(right)
			checkRat(t, "sum of areas", rational.Add(leftArea, rightArea), err, area)
		}
	}
}
