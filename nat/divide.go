package nat

import (
	"math/bits"

	"bspregion/api"
)

// DivMod returns the quotient, rounded down, the remainder and true, or 0, 0 and false if b is 0.
func DivMod(a, b api.Nat) (api.Nat, api.Nat, bool) {
	a, b = trim(a), trim(b)
	switch {
	case len(b) == 0:
		return nil, nil, false
	case len(a) < len(b):
		return nil, Norm(a), true
	case len(b) == 1:
		quotient := Norm(a)
		rest := divideByDigit(quotient, b[0])
		return trim(quotient), FromUint(uint64(rest)), true
	}
	quotient, rest := divideLong(a, b)
	return quotient, rest, true
}

// divideByDigit replaces a by its quotient by d and returns the remainder.
func divideByDigit(a api.Nat, d uint32) uint32 {
	rest := uint64(0)
	for i := len(a) - 1; i >= 0; i-- {
		rest = rest<<digitBits | uint64(a[i])
		a[i] = uint32(rest / uint64(d))
		rest %= uint64(d)
	}
	return uint32(rest)
}

// divideLong divides a by b, which has at least two digits and not more than a.
func divideLong(a, b api.Nat) (api.Nat, api.Nat) {
	// The estimates of the digits are good only if the highest bit of the divisor is set.
	shift := uint(bits.LeadingZeros32(b[len(b)-1]))
	divisor := shiftLeft(b, shift)
	n := len(divisor)
	rest := make(api.Nat, len(a)+1)
	copy(rest, shiftLeft(a, shift))
	quotient := make(api.Nat, len(a)-n+1)
digits:
	for i := len(quotient) - 1; i >= 0; i-- {
		part := rest[i : i+n+1]
		quotient[i] = estimate(part, divisor)
		negative := subtractMultiple(part, divisor, quotient[i])
		for {
			if !negative {
				continue digits
			}
			quotient[i]--
			carry := addMultiple(part[:n], divisor, 1)
			part[n] += carry
			negative = part[n] >= carry
		}
	}
	return trim(quotient), Shr(rest, shift)
}

// estimate returns the digit part / divisor, or one that is greater by 1. Part has one digit more than divisor and is less than base * divisor.
func estimate(part, divisor api.Nat) uint32 {
	n := len(divisor)
	top, first, second := uint64(part[n])<<digitBits|uint64(part[n-1]), uint64(divisor[n-1]), uint64(divisor[n-2])
	q := min(top/first, digitMask)
	rest := top - q*first
	for rest < base && q*second > rest<<digitBits|uint64(part[n-2]) {
		q--
		rest += first
	}
	return uint32(q)
}

// subtractMultiple subtracts q * divisor from part, which has one digit more than divisor, and reports whether the result is negative: it lacks the carry beyond the last digit then.
func subtractMultiple(part, divisor api.Nat, q uint32) bool {
	n := len(divisor)
	carry := uint64(0)
	for i := range n {
		carry += uint64(q) * uint64(divisor[i])
		d := uint64(part[i]) - carry&digitMask
		part[i] = uint32(d)
		carry = carry>>digitBits + d>>63
	}
	d := uint64(part[n]) - carry
	part[n] = uint32(d)
	return d>>63 == 1
}
