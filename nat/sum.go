package nat

import "bspregion/api"

// Add returns the sum of a and b.
func Add(a, b api.Nat) api.Nat {
	a, b = trim(a), trim(b)
	n := max(len(a), len(b))
	sum := make(api.Nat, n+1)
	carry := uint64(0)
	for i := range n {
		carry += digit(a, i) + digit(b, i)
		sum[i] = uint32(carry)
		carry >>= digitBits
	}
	sum[n] = uint32(carry)
	return trim(sum)
}

// Sub returns a - b and true, or 0 and false if a is less than b.
func Sub(a, b api.Nat) (api.Nat, bool) {
	if Cmp(a, b) < 0 {
		return nil, false
	}
	return difference(1, trim(a), 1, trim(b)), true
}

// difference returns p * a - q * b, which must be at least 0 and have no more digits than the longer one of a and b; p and q must be less than the base.
func difference(p uint64, a api.Nat, q uint64, b api.Nat) api.Nat {
	n := max(len(a), len(b))
	rest := make(api.Nat, n)
	plus, minus, borrow := uint64(0), uint64(0), uint64(0)
	for i := range n {
		plus += p * digit(a, i)
		minus += q * digit(b, i)
		d := plus&digitMask - minus&digitMask - borrow
		rest[i] = uint32(d)
		borrow = d >> 63
		plus >>= digitBits
		minus >>= digitBits
	}
	return trim(rest)
}

// Mul returns the product of a and b.
func Mul(a, b api.Nat) api.Nat {
	a, b = trim(a), trim(b)
	product := make(api.Nat, len(a)+len(b))
	for i := range len(a) {
		product[i+len(b)] = addMultiple(product[i:i+len(b)], b, a[i])
	}
	return trim(product)
}

// addMultiple adds d * b to the digits of sum, which are as many as those of b, and returns the carry.
func addMultiple(sum, b api.Nat, d uint32) uint32 {
	carry := uint64(0)
	for i := range len(b) {
		carry += uint64(d)*uint64(b[i]) + uint64(sum[i])
		sum[i] = uint32(carry)
		carry >>= digitBits
	}
	return uint32(carry)
}
