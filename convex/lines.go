package convex

import (
	"cmp"

	"bspregion/api"
	"bspregion/integer"
)

// compareAngles orders lines by the angles of their directions, as point.Angle does.
func compareAngles(l, m api.Line) int {
	if order := cmp.Compare(half(l), half(m)); order != 0 {
		return order
	}
	return turn(m, l)
}

// half is 0 if the direction of l is the one of the positive x axis or points upwards, and 1 otherwise.
func half(l api.Line) int {
	// The direction is (B, -A).
	a := integer.Sign(l.A)
	if a < 0 || a == 0 && integer.Sign(l.B) > 0 {
		return 0
	}
	return 1
}

// turn is 1 if the direction of m is a left turn from that of l, -1 if it is a right turn, and 0 if the lines are parallel.
func turn(l, m api.Line) int {
	return integer.Cmp(integer.Mul(l.A, m.B), integer.Mul(l.B, m.A))
}

// corner is the side of l on which the common point of a and b lies, where b is a left turn from a.
func corner(a, b, l api.Line) int {
	// These are homogeneous coordinates of the point, and the turn makes the third one positive.
	x := determinant(a.B, a.C, b.B, b.C)
	y := determinant(a.C, a.A, b.C, b.A)
	w := determinant(a.A, a.B, b.A, b.B)
	return integer.Sign(integer.Add(integer.Add(integer.Mul(l.A, x), integer.Mul(l.B, y)), integer.Mul(l.C, w)))
}

// determinant is a * d - b * c.
func determinant(a, b, c, d api.Int) api.Int {
	return integer.Sub(integer.Mul(a, d), integer.Mul(b, c))
}

// sideOf is the side of l on which the points of the parallel line m lie.
func sideOf(l, m api.Line) int {
	// The point of m that is nearest to the origin is (A, B) of m, multiplied by -C and divided by the product of (A, B) with itself.
	return integer.Cmp(integer.Mul(l.C, product(m, m)), integer.Mul(m.C, product(l, m)))
}

// product is the scalar product of the vectors (A, B) of l and m.
func product(l, m api.Line) api.Int {
	return integer.Add(integer.Mul(l.A, m.A), integer.Mul(l.B, m.B))
}
