package rational

import (
	"bspregion/api"
	"bspregion/integer"
	"bspregion/nat"
)

// scale is a * b.
func scale(a api.Int, b api.Nat) api.Int {
	return integer.Mul(a, api.Int{Abs: b})
}

// sum is the sum of a and b, not in lowest terms.
func sum(a, b api.Rat) api.Rat {
	a, b = fraction(a), fraction(b)
	return api.Rat{Num: integer.Add(scale(a.Num, b.Den), scale(b.Num, a.Den)), Den: nat.Mul(a.Den, b.Den)}
}

// Neg returns -a.
func Neg(a api.Rat) api.Rat {
	a.Num.Neg = !a.Num.Neg
	return Norm(a)
}

// Add returns the sum of a and b.
func Add(a, b api.Rat) api.Rat {
	return Norm(sum(a, b))
}

// Sub returns a - b.
func Sub(a, b api.Rat) api.Rat {
	b.Num.Neg = !b.Num.Neg
	return Add(a, b)
}

// Mul returns the product of a and b.
func Mul(a, b api.Rat) api.Rat {
	a, b = fraction(a), fraction(b)
	return lowest(integer.Mul(a.Num, b.Num), nat.Mul(a.Den, b.Den))
}

// Div returns a / b and true, or 0 and false if b is 0.
func Div(a, b api.Rat) (api.Rat, bool) {
	if Sign(b) == 0 {
		return FromInt(0), false
	}
	a = fraction(a)
	return New(scale(a.Num, b.Den), scale(b.Num, a.Den))
}

// Middle returns half the sum of a and b.
func Middle(a, b api.Rat) api.Rat {
	total := sum(a, b)
	return lowest(total.Num, nat.Shl(total.Den, 1))
}

// Floor returns the greatest integer that is at most a.
func Floor(a api.Rat) api.Int {
	a = fraction(a)
	quotient, _, _ := integer.DivMod(a.Num, api.Int{Abs: a.Den})
	return quotient
}

// Ceil returns the least integer that is at least a.
func Ceil(a api.Rat) api.Int {
	a.Num.Neg = !a.Num.Neg
	return integer.Neg(Floor(a))
}
