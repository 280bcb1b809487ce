package point

import (
	"cmp"

	"bspregion/api"
	"bspregion/integer"
	"bspregion/rational"
)

// Add returns the sum of p and q.
func Add(p, q api.Point) api.Point {
	return api.Point{X: rational.Add(p.X, q.X), Y: rational.Add(p.Y, q.Y)}
}

// Sub returns p - q.
func Sub(p, q api.Point) api.Point {
	return api.Point{X: rational.Sub(p.X, q.X), Y: rational.Sub(p.Y, q.Y)}
}

// Scale returns c * p.
func Scale(c api.Rat, p api.Point) api.Point {
	return api.Point{X: rational.Mul(c, p.X), Y: rational.Mul(c, p.Y)}
}

// Dot returns the sum of the products of the coordinates.
func Dot(p, q api.Point) api.Rat {
	return rational.Add(rational.Mul(p.X, q.X), rational.Mul(p.Y, q.Y))
}

// Cross returns p.X * q.Y - p.Y * q.X.
func Cross(p, q api.Point) api.Rat {
	return rational.Sub(rational.Mul(p.X, q.Y), rational.Mul(p.Y, q.X))
}

// turn is the sign of Cross(u, v). Comparing the products is cheaper than reducing their difference to lowest terms.
func turn(u, v api.Point) int {
	return rational.Cmp(rational.Mul(u.X, v.Y), rational.Mul(u.Y, v.X))
}

// Angle orders vectors by their direction, the vector 0 before all others, and returns -1, 0 or 1.
func Angle(u, v api.Point) int {
	if order := cmp.Compare(half(u), half(v)); order != 0 {
		return order
	}
	return turn(v, u)
}

// half is 0 for the vector 0, 1 for the directions from the positive x axis on to just before the negative one, and 2 for the other directions.
func half(v api.Point) int {
	x, y := rational.Sign(v.X), rational.Sign(v.Y)
	switch {
	case x == 0 && y == 0:
		return 0
	case y > 0 || y == 0 && x > 0:
		return 1
	}
	return 2
}

// Primitive returns the positive multiple of v whose coordinates are integers without a common divisor greater than 1, and 0 for 0.
func Primitive(v api.Point) api.Point {
	v = Norm(v)
	x := integer.Mul(v.X.Num, api.Int{Abs: v.Y.Den})
	y := integer.Mul(v.Y.Num, api.Int{Abs: v.X.Den})
	divisor := api.Int{Abs: integer.Gcd(x, y)}
	return api.Point{X: quotient(x, divisor), Y: quotient(y, divisor)}
}

// quotient is a / b, or 0 if b is 0.
func quotient(a, b api.Int) api.Rat {
	result, _ := rational.New(a, b)
	return result
}
