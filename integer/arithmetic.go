package integer

import (
	"bspregion/api"
	"bspregion/nat"
)

// Neg returns -a.
func Neg(a api.Int) api.Int {
	return signed(!a.Neg, nat.Norm(a.Abs))
}

// Abs returns the absolute value of a.
func Abs(a api.Int) api.Nat {
	return nat.Norm(a.Abs)
}

// Add returns the sum of a and b.
func Add(a, b api.Int) api.Int {
	if a.Neg == b.Neg {
		return signed(a.Neg, nat.Add(a.Abs, b.Abs))
	}
	if rest, ok := nat.Sub(a.Abs, b.Abs); ok {
		return signed(a.Neg, rest)
	}
	rest, _ := nat.Sub(b.Abs, a.Abs)
	return signed(b.Neg, rest)
}

// Sub returns a - b.
func Sub(a, b api.Int) api.Int {
	b.Neg = !b.Neg
	return Add(a, b)
}

// Mul returns the product of a and b.
func Mul(a, b api.Int) api.Int {
	return signed(a.Neg != b.Neg, nat.Mul(a.Abs, b.Abs))
}

// DivMod returns the quotient of a and b, the remainder, which is at least 0 and less than |b|, and true, or 0, 0 and false if b is 0.
func DivMod(a, b api.Int) (api.Int, api.Int, bool) {
	quotient, rest, ok := nat.DivMod(a.Abs, b.Abs)
	if !ok {
		return api.Int{}, api.Int{}, false
	}
	negative := b.Neg
	switch {
	case a.Neg && len(rest) > 0:
		// A negative number is rounded down by rounding its absolute value up.
		quotient = nat.Add(quotient, nat.FromUint(1))
		rest, _ = nat.Sub(b.Abs, rest)
		fallthrough
	case a.Neg:
		negative = !negative
	}
	return signed(negative, quotient), signed(false, rest), true
}

// Gcd returns the greatest common divisor of the absolute values of a and b.
func Gcd(a, b api.Int) api.Nat {
	return nat.Gcd(a.Abs, b.Abs)
}
