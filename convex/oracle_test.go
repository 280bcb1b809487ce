package convex_test

import (
	"cmp"
	"math"
	"slices"

	"bspregion/api"
	"bspregion/integer"
	"bspregion/line"
	"bspregion/rational"
)

// row are the coefficients of a line, or the homogeneous coordinates of a point. They are small, so that int64 is enough for all products here.
type row [3]int64

// line is the line with these coefficients.
func (r row) line() api.Line {
	l, ok := line.New(integer.FromInt(r[0]), integer.FromInt(r[1]), integer.FromInt(r[2]))
	if !ok {
		panic("no line")
	}
	return l
}

// point is the point with these homogeneous coordinates.
func (r row) point() api.Point {
	x, _ := rational.New(integer.FromInt(r[0]), integer.FromInt(r[2]))
	y, _ := rational.New(integer.FromInt(r[1]), integer.FromInt(r[2]))
	return api.Point{X: x, Y: y}
}

// reverse is the line with the other orientation.
func (r row) reverse() row {
	return row{-r[0], -r[1], -r[2]}
}

// times is the scalar product.
func (r row) times(s row) int64 {
	return r[0]*s[0] + r[1]*s[1] + r[2]*s[2]
}

// meet is the common point of two lines. Its last coordinate is positive, or 0 if they are parallel.
func (r row) meet(s row) row {
	p := row{r[1]*s[2] - r[2]*s[1], r[2]*s[0] - r[0]*s[2], r[0]*s[1] - r[1]*s[0]}
	if p[2] < 0 {
		return p.reverse()
	}
	return p
}

// angle is the angle of the direction of the line, at least 0. Those of short vectors differ by much more than the error.
func (r row) angle() float64 {
	angle := math.Atan2(float64(-r[0]), float64(r[1]))
	if angle < 0 {
		angle += 2 * math.Pi
	}
	return angle
}

// rows are the sides of a cell.
type rows []row

// cell is the cell with these sides.
func (l rows) cell() api.Cell {
	var c api.Cell
	for _, r := range l {
		c.Sides = append(c.Sides, r.line())
	}
	return c
}

// with has the side r, too.
func (l rows) with(r row) rows {
	return slices.Concat(l, rows{r})
}

// side is -1 if p lies to the right of a side, otherwise 0 if it lies on a side, and otherwise 1.
func (l rows) side(p row) int {
	result := 1
	for _, r := range l {
		result = min(result, cmp.Compare(r.times(p), 0))
	}
	return result
}

// beyond is more than any coordinate of a common point of two lines of the samples.
const beyond = 10000

// square are the sides of a square around all common points of two lines of the samples.
func square() rows {
	return rows{{0, 1, beyond}, {-1, 0, beyond}, {0, -1, beyond}, {1, 0, beyond}}
}

// corners are all common points of two of the lines to the right of no line, some of them several times.
func (l rows) corners() rows {
	var list rows
	for i, r := range l {
		for _, s := range l[:i] {
			if p := r.meet(s); p[2] > 0 && l.side(p) >= 0 {
				list = append(list, p)
			}
		}
	}
	return list
}

// empty reports whether the interior of the cell is empty: whether the mean of the corners of its part in the square does not belong to the interior.
func (l rows) empty() bool {
	part := slices.Concat(l, square())
	var mean row
	for _, p := range part.corners() {
		for i := range mean {
			mean[i] += p[i]
		}
	}
	return part.side(mean) <= 0
}

// canon are the sides of the canonical cell: those whose other side has points to the left of all other sides. The interior must not be empty.
func (l rows) canon() rows {
	var list rows
	for i, r := range l {
		others := slices.DeleteFunc(slices.Clone(l), func(s row) bool { return s == r })
		if !slices.Contains(l[:i], r) && !others.with(r.reverse()).empty() {
			list = append(list, r)
		}
	}
	slices.SortFunc(list, func(r, s row) int { return cmp.Compare(r.angle(), s.angle()) })
	return list
}

// place is 1, -1 or 0 if the interior lies to the left of r, to the right of r, or on both sides.
func (l rows) place(r row) int {
	switch {
	case l.with(r.reverse()).empty():
		return 1
	case l.with(r).empty():
		return -1
	}
	return 0
}

// class is the class of a point, where the interior is empty or not.
func (l rows) class(p row, empty bool) int {
	if empty {
		return api.Outside
	}
	return l.side(p) + 1
}

// bounded reports whether the cell does not reach the square.
func (l rows) bounded() bool {
	part := slices.Concat(l, square())
	return !slices.ContainsFunc(part.corners(), func(p row) bool { return square().side(p) <= 0 })
}

// vertices are the vertices of the canonical cell with these sides.
func (l rows) vertices() []api.Point {
	var list []api.Point
	for i, r := range l {
		if s := l[(i+1)%len(l)]; r[0]*s[1]-r[1]*s[0] > 0 {
			list = append(list, r.meet(s).point())
		}
	}
	return list
}
