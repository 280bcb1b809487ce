package convex

import (
	"bspregion/api"
	"bspregion/line"
	"bspregion/point"
	"bspregion/rational"
)

// Vertices returns the vertices of the canonical cell with the interior of c: for each side, in order, its common point with the next one, if that is a left turn.
func Vertices(c api.Cell) ([]api.Point, error) {
	b, err := examine(c)
	if err != nil {
		return nil, err
	}
	return b.vertices(), nil
}

// vertices are the corners of the cell that are not infinitely far away, in order.
func (b borders) vertices() []api.Point {
	var list []api.Point
	for i, l := range b {
		if next := b.at(i + 1); turn(l, next) > 0 {
			p, _ := line.Meet(l, next)
			list = append(list, p)
		}
	}
	return list
}

// Bounded reports whether c is bounded.
func Bounded(c api.Cell) (bool, error) {
	b, err := examine(c)
	if err != nil {
		return false, err
	}
	return b.bounded(), nil
}

// bounded reports whether no corner is infinitely far away.
func (b borders) bounded() bool {
	for i, l := range b {
		if turn(l, b.at(i+1)) <= 0 {
			return false
		}
	}
	return len(b) > 0
}

// Area returns the area of a bounded cell.
func Area(c api.Cell) (api.Rat, error) {
	b, err := examine(c)
	if err != nil {
		return api.Rat{}, err
	}
	if !b.bounded() {
		return api.Rat{}, api.ErrUnbounded
	}
	var list []api.Rat
	vertices := b.vertices()
	for i, v := range vertices {
		list = append(list, point.Cross(v, vertices[(i+1)%len(vertices)]))
	}
	return rational.Middle(total(list), rational.FromInt(0)), nil
}

// total is the sum of the numbers of the list, which is not empty. The halves of the list are added up first, as sums of many numbers have many digits.
func total(list []api.Rat) api.Rat {
	if len(list) == 1 {
		return list[0]
	}
	half := len(list) / 2
	return rational.Add(total(list[:half]), total(list[half:]))
}

// Inner returns some point of the interior of c.
func Inner(c api.Cell) (api.Point, error) {
	b, err := examine(c)
	if err != nil {
		return api.Point{}, err
	}
	if !b.bounded() {
		b = b.boundedPart()
	}
	return centroid(b.vertices()[:3]), nil
}

// centroid is the third of the sum of three points.
func centroid(points []api.Point) api.Point {
	sum := point.Add(point.Add(points[0], points[1]), points[2])
	third, _ := rational.Div(rational.FromInt(1), rational.FromInt(3))
	return point.Scale(third, sum)
}

// boundedPart are the borders of the part of the cell in a square around a point of its closure.
func (b borders) boundedPart() borders {
	for _, l := range square(b.somewhere()) {
		b, _ = b.clip(l)
	}
	return b
}

// somewhere is a point of the closure of the cell.
func (b borders) somewhere() api.Point {
	if list := b.vertices(); len(list) > 0 {
		return list[0]
	}
	// Without vertices, there are parallel sides at most.
	if len(b) > 0 {
		return line.Base(b[0])
	}
	return point.FromInts(0, 0)
}

// square are the sides of a square around p, counterclockwise.
func square(p api.Point) []api.Line {
	var list []api.Line
	vertex := point.Add(p, point.FromInts(-1, -1))
	for _, edge := range []api.Point{point.FromInts(2, 0), point.FromInts(0, 2), point.FromInts(-2, 0), point.FromInts(0, -2)} {
		next := point.Add(vertex, edge)
		l, _ := line.Through(vertex, next)
		list = append(list, l)
		vertex = next
	}
	return list
}
