package line

import (
	"slices"

	"bspregion/api"
	"bspregion/integer"
	"bspregion/rational"
)

// coefficients are A, B and C of a line.
type coefficients [3]api.Int

// coordinates are the homogeneous coordinates of a point: the first two divided by the third one are X and Y.
type coordinates [3]api.Int

// triple is what lines and points have in common: they are dual to each other.
type triple interface {
	coefficients | coordinates
}

// cross is the cross product of u and v: the line through two points, or the common point of two lines.
func cross[R, T triple](u, v T) R {
	return R{
		determinant(u[1], u[2], v[1], v[2]),
		determinant(u[2], u[0], v[2], v[0]),
		determinant(u[0], u[1], v[0], v[1]),
	}
}

// determinant is a * d - b * c.
func determinant(a, b, c, d api.Int) api.Int {
	return integer.Sub(integer.Mul(a, d), integer.Mul(b, c))
}

// dot is the sum of the products of the elements of u and v.
func dot[T, U triple](u T, v U) api.Int {
	sum := integer.Mul(u[0], v[0])
	for i := 1; i < len(u); i++ {
		sum = integer.Add(sum, integer.Mul(u[i], v[i]))
	}
	return sum
}

// coefficientsOf shares the memory of l, so the result is not to leave the package.
func coefficientsOf(l api.Line) coefficients {
	return coefficients{l.A, l.B, l.C}
}

// line is the line with new memory.
func (u coefficients) line() api.Line {
	return api.Line{A: integer.Norm(u[0]), B: integer.Norm(u[1]), C: integer.Norm(u[2])}
}

// degenerate reports whether u is no line, as A and B are 0.
func (u coefficients) degenerate() bool {
	return integer.Sign(u[0]) == 0 && integer.Sign(u[1]) == 0
}

// divisor is the greatest common divisor of the coefficients.
func (u coefficients) divisor() api.Int {
	divisor := api.Int{Abs: integer.Gcd(u[0], u[1])}
	return api.Int{Abs: integer.Gcd(divisor, u[2])}
}

// primitive returns the valid line with the points and sides of u, and true, or false if u is degenerate.
func (u coefficients) primitive() (api.Line, bool) {
	if u.degenerate() {
		return api.Line{}, false
	}
	divisor := u.divisor()
	for i, a := range u {
		u[i], _, _ = integer.DivMod(a, divisor)
	}
	return u.line(), true
}

// reverse is the line with the other orientation.
func (u coefficients) reverse() coefficients {
	return coefficients{integer.Neg(u[0]), integer.Neg(u[1]), integer.Neg(u[2])}
}

// across is the line through the origin at a right angle to u, whose left side is ahead. Its value at a point is the parameter on u, multiplied by the square of the length of the direction.
func (u coefficients) across() coefficients {
	return coefficients{u[1], integer.Neg(u[0]), api.Int{}}
}

// compare orders lines by A, then B, then C.
func (u coefficients) compare(v coefficients) int {
	return slices.CompareFunc(u[:], v[:], integer.Cmp)
}

// homogeneous are the coordinates of p. The third one is positive. They share the memory of p, so they are not to leave the package.
func homogeneous(p api.Point) coordinates {
	x, xDen := fraction(p.X)
	y, yDen := fraction(p.Y)
	// This case is the most frequent one, and its numbers stay short.
	if integer.Cmp(xDen, yDen) == 0 {
		return coordinates{x, y, xDen}
	}
	return coordinates{integer.Mul(x, yDen), integer.Mul(y, xDen), integer.Mul(xDen, yDen)}
}

// fraction returns the numerator and the denominator of a, which is not 0, where a need not be in normal form. They share the memory of a.
func fraction(a api.Rat) (api.Int, api.Int) {
	if rational.Sign(a) == 0 {
		return api.Int{}, integer.FromInt(1)
	}
	return a.Num, api.Int{Abs: a.Den}
}

// point returns the point and true, or false if it is at infinity.
func (u coordinates) point() (api.Point, bool) {
	x, ok := rational.New(u[0], u[2])
	if !ok {
		return api.Point{}, false
	}
	return api.Point{X: x, Y: quotient(u[1], u[2])}, true
}

// quotient is a / b, where b is not 0.
func quotient(a, b api.Int) api.Rat {
	result, _ := rational.New(a, b)
	return result
}
