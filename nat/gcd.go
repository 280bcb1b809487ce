package nat

import "bspregion/api"

const windowBits = 64

// Gcd returns the greatest common divisor of a and b; it is the other number if one of them is 0.
func Gcd(a, b api.Nat) api.Nat {
	x, y := Norm(a), Norm(b)
	if Cmp(x, y) < 0 {
		x, y = y, x
	}
	for len(y) > 2 {
		x, y = shorten(x, y)
	}
	if len(y) == 0 {
		return x
	}
	_, rest, _ := DivMod(x, y)
	u, _ := Uint(y)
	v, _ := Uint(rest)
	for v != 0 {
		u, v = v, u%v
	}
	return FromUint(u)
}

// shorten returns two later elements of Euclid's sequence of x and y, where x is at least y and y has more than two digits.
func shorten(x, y api.Nat) (api.Nat, api.Nat) {
	low := uint(Bits(x) - windowBits)
	xTop, _ := Uint(Shr(x, low))
	yTop, _ := Uint(Shr(y, low))
	f := euclid(xTop, yTop)
	switch {
	case f.v0 == 0:
		_, rest, _ := DivMod(x, y)
		return y, rest
	case f.even:
		return difference(f.u0, x, f.v0, y), difference(f.v1, y, f.u1, x)
	}
	return difference(f.v0, y, f.u0, x), difference(f.u1, x, f.v1, y)
}

// factors are the absolute values of the factors by which two elements of Euclid's sequence of x and y are sums of multiples of x and y. After an even number of steps the elements are u0*x - v0*y and v1*y - u1*x, after an odd number the negatives of these.
type factors struct {
	u0, v0, u1, v1 uint64
	even           bool
}

// euclid takes the steps of Euclid's algorithm that are certain (by Collins' condition) from the highest bits of two numbers, as Lehmer's algorithm does. The highest bit of x must be set. The factors are less than 2^32, and v0 is 0 if there are too few steps to be of use.
func euclid(x, y uint64) factors {
	f := factors{u1: 1}
	u2, v2 := uint64(0), uint64(1)
	for y >= v2 && x-y >= f.v1+v2 {
		q := x / y
		x, y = y, x%y
		f.u0, f.u1, u2 = f.u1, u2, f.u1+q*u2
		f.v0, f.v1, v2 = f.v1, v2, f.v1+q*v2
		f.even = !f.even
	}
	return f
}
