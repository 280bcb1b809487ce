package convex_test

import (
	"slices"

	"bspregion/api"
	"bspregion/line"
	"bspregion/point"
	"bspregion/rational"
)

// dice yields numbers without an order, the same ones in each run.
type dice uint64

// roll is the next number, at least 0 and less than n.
func (d *dice) roll(n int) int {
	*d = *d*6364136223846793005 + 1442695040888963407
	return int(uint64(*d) >> 33 % uint64(n))
}

// divisor is the greatest common divisor of the coefficients.
func (r row) divisor() int64 {
	var result int64
	for _, a := range r {
		for a != 0 {
			result, a = a, result%a
		}
	}
	return max(result, -result)
}

// family are all lines whose first coefficients are at most ab and whose last one is at most c.
func family(ab, c int64) rows {
	var list rows
	for x := -ab; x <= ab; x++ {
		for y := -ab; y <= ab; y++ {
			for z := -c; z <= c; z++ {
				if r := (row{x, y, z}); (x != 0 || y != 0) && r.divisor() == 1 {
					list = append(list, r)
				}
			}
		}
	}
	return list
}

// few calls test with all cells of at most three lines of a small family, in all orders, with repetitions.
func few(test func(l rows)) {
	test(nil)
	list := family(1, 1)
	for _, r := range list {
		test(rows{r})
		for _, s := range list {
			test(rows{r, s})
			for _, q := range list {
				test(rows{r, s, q})
			}
		}
	}
}

// many are cells of up to twelve sides. Most of the first ones are empty; none of the others is, as (0,0) belongs to the interior.
func many() []rows {
	var d dice
	var list []rows
	wide := family(3, 6)
	for i := range 3000 {
		var l rows
		for range 2 + d.roll(11) {
			r := wide[d.roll(len(wide))]
			if i >= 1000 {
				r[2] = max(r[2], -r[2])
				if r[2] == 0 {
					r[2] = 1
				}
			}
			l = append(l, r)
		}
		list = append(list, l)
	}
	return list
}

// probes are lines of all places: the sides, their reverses, lines that are parallel to sides, and others.
func (l rows) probes() rows {
	list := slices.Clone(l[:min(len(l), 4)])
	for _, r := range list {
		list = append(list, r.reverse(), row{r[0], r[1], r[2] + 1}, row{-r[0], -r[1], 1 - r[2]}, row{r[0], r[1], r[2] - 2})
	}
	list = append(list, row{1, 1, -1}, row{-2, 1, 3}, row{0, 1, -1}, row{-1, 0, 0}, row{3, -1, 5}, row{-1, -3, 40})
	return slices.DeleteFunc(list, func(r row) bool { return r.divisor() != 1 })
}

// invalidLines are not valid, each for another reason.
func invalidLines() []api.Line {
	return []api.Line{
		{}, ln("0", "0", "1"), ln("2", "0", "4"), ln("-3", "6", "0"),
		{A: api.Int{Abs: api.Nat{1, 0}}, B: integerOf("2"), C: integerOf("3")},
		{A: integerOf("1"), B: api.Int{Neg: true}, C: integerOf("3")},
		{A: integerOf("1"), B: integerOf("2"), C: api.Int{Abs: api.Nat{0}}},
	}
}

// invalidCells are not valid: a side is not, whatever the other ones are, or there are too many.
func invalidCells() []api.Cell {
	x, y := ln("1", "0", "0"), ln("0", "1", "0")
	var list []api.Cell
	for _, l := range invalidLines() {
		list = append(list, cell(l), cell(x, l), cell(l, x, y), cell(x, line.Reverse(x), l), cell(x, l, x, line.Reverse(x)))
	}
	return append(list, cell(slices.Repeat([]api.Line{x}, api.MaxSides+1)...), cell(slices.Repeat([]api.Line{x, line.Reverse(x)}, api.MaxSides)...))
}

// emptyCells have an empty interior, each for another reason.
func emptyCells() []api.Cell {
	up, down, right, left := ln("0", "1", "0"), ln("0", "-1", "0"), ln("1", "0", "0"), ln("-1", "0", "0")
	return []api.Cell{
		cell(up, down), cell(ln("0", "1", "-1"), down), cell(right, up, left), cell(up, right, ln("-1", "-1", "0")), cell(up, right, ln("-1", "-1", "-1")),
		cell(ln("-1", "-1", "0"), up, ln("1", "0", "7"), right), cell(ln("1", "1", "1"), ln("1", "-1", "1"), ln("-1", "0", "-2")),
		cell(ln("1", "0", "-"+far), ln("-"+far, "1", "0"), ln("0", "-1", far)),
		cell(slices.Repeat([]api.Line{up, down}, api.MaxSides/2)...),
	}
}

// polygonPoints are the vertices of a convex polygon with n sides, counterclockwise, where n is even. The first edge runs in the direction of the x axis.
func polygonPoints(n int) []api.Point {
	var edges []row
	for size := int64(1); len(edges) < n/2; size++ {
		edges = slices.DeleteFunc(family(size, 0), func(r row) bool { return r[0] > 0 || r[0] == 0 && r[1] < 0 })
	}
	slices.SortFunc(edges, func(r, s row) int { return point.Angle(point.FromInts(r[1], -r[0]), point.FromInts(s[1], -s[0])) })
	edges = edges[:n/2]
	list := []api.Point{point.FromInts(0, 0)}
	for i := range n - 1 {
		r := edges[i%(n/2)]
		if i >= n/2 {
			r = r.reverse()
		}
		list = append(list, point.Add(list[i], point.FromInts(r[1], -r[0])))
	}
	return list
}

// polygon is the canonical cell with these vertices, if they are those of polygonPoints.
func polygon(vertices []api.Point) api.Cell {
	var c api.Cell
	for i, p := range vertices {
		c.Sides = append(c.Sides, through(p, vertices[(i+1)%len(vertices)]))
	}
	return c
}

// middle is the middle of the edge of a polygon with this number.
func middle(vertices []api.Point, edge int) api.Point {
	n := len(vertices)
	return point.Scale(number("1/2"), point.Add(vertices[edge%n], vertices[(edge+1)%n]))
}

// enlarge is l after all points have been multiplied by s and then moved by v.
func enlarge(l api.Line, s api.Rat, v api.Point) api.Line {
	p, d := point.Add(point.Scale(s, line.Base(l)), v), line.Direction(l)
	return through(p, point.Add(p, d))
}

// lean is l after (x, y) has become (x + s y, y).
func lean(l api.Line, s api.Rat) api.Line {
	move := func(p api.Point) api.Point {
		return api.Point{X: rational.Add(p.X, rational.Mul(s, p.Y)), Y: p.Y}
	}
	return through(move(line.Base(l)), move(point.Add(line.Base(l), line.Direction(l))))
}

// mapped is c with all sides replaced.
func mapped(c api.Cell, change func(l api.Line) api.Line) api.Cell {
	var list []api.Line
	for _, l := range c.Sides {
		list = append(list, change(l))
	}
	return cell(list...)
}
