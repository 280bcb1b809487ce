package line

import (
	"bspregion/api"
	"bspregion/integer"
	"bspregion/rational"
)

// Value returns A x + B y + C at p.
func Value(l api.Line, p api.Point) api.Rat {
	if !Valid(l) {
		return api.Rat{}
	}
	v := homogeneous(p)
	return quotient(dot(coefficientsOf(l), v), v[2])
}

// Side returns the sign of Value: 1 if p is to the left of l, -1 if it is to the right, and 0 if it is on l.
func Side(l api.Line, p api.Point) int {
	if !Valid(l) {
		return 0
	}
	return integer.Sign(dot(coefficientsOf(l), homogeneous(p)))
}

// Direction returns the vector (B, -A).
func Direction(l api.Line) api.Point {
	if !Valid(l) {
		return api.Point{}
	}
	one := integer.FromInt(1)
	return api.Point{X: quotient(l.B, one), Y: quotient(integer.Neg(l.A), one)}
}

// Base returns the point of l that is nearest to the origin.
func Base(l api.Line) api.Point {
	return At(l, rational.FromInt(0))
}

// At returns the point of l with the parameter t.
func At(l api.Line, t api.Rat) api.Point {
	if !Valid(l) {
		return api.Point{}
	}
	u := coefficientsOf(l)
	result, _ := cross[coordinates](u, acrossAt(u, t)).point()
	return result
}

// acrossAt is the line at a right angle to u through the point of u with the parameter t.
func acrossAt(u coefficients, t api.Rat) coefficients {
	num, den := fraction(t)
	v := u.across()
	return coefficients{integer.Mul(v[0], den), integer.Mul(v[1], den), integer.Neg(integer.Mul(dot(v, v), num))}
}

// Param returns the parameter of the point of l that is nearest to p.
func Param(l api.Line, p api.Point) api.Rat {
	if !Valid(l) {
		return api.Rat{}
	}
	u, v := coefficientsOf(l).across(), homogeneous(p)
	return quotient(dot(u, v), integer.Mul(dot(u, u), v[2]))
}
