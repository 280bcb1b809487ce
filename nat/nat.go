// Package nat computes with natural numbers of any size. It is layer 1: see shared/doc/01-nat.md.
package nat

import (
	"math/bits"

	"bspregion/api"
)

const (
	digitBits = 32
	digitMask = 1<<digitBits - 1
	base      = 1 << digitBits
)

// trim cuts off the zeros at the end. The result shares the memory of a, so it is not to leave the package where a is an argument.
func trim(a api.Nat) api.Nat {
	n := len(a)
	for n > 0 && a[n-1] == 0 {
		n--
	}
	return a[:n]
}

// digit is the digit number i of a, which is 0 beyond the end.
func digit(a api.Nat, i int) uint64 {
	if i < len(a) {
		return uint64(a[i])
	}
	return 0
}

// Norm returns a in normal form.
func Norm(a api.Nat) api.Nat {
	return append(api.Nat(nil), trim(a)...)
}

// Normal reports whether a is in normal form.
func Normal(a api.Nat) bool {
	return len(a) == 0 || a[len(a)-1] != 0
}

// FromUint returns u.
func FromUint(u uint64) api.Nat {
	return trim(api.Nat{uint32(u), uint32(u >> digitBits)})
}

// Uint returns the value of a and true if it is less than 2^64.
func Uint(a api.Nat) (uint64, bool) {
	a = trim(a)
	if len(a) > 2 {
		return 0, false
	}
	return digit(a, 1)<<digitBits | digit(a, 0), true
}

// Cmp returns -1, 0 or 1 if a is less than, equal to or greater than b.
func Cmp(a, b api.Nat) int {
	a, b = trim(a), trim(b)
	if len(a) != len(b) {
		return order(len(a) < len(b))
	}
	for i := len(a) - 1; i >= 0; i-- {
		if a[i] != b[i] {
			return order(a[i] < b[i])
		}
	}
	return 0
}

// order is the result of comparing two different numbers.
func order(less bool) int {
	if less {
		return -1
	}
	return 1
}

// Bits returns the number of binary digits of a.
func Bits(a api.Nat) int {
	a = trim(a)
	if len(a) == 0 {
		return 0
	}
	return (len(a)-1)*digitBits + bits.Len32(a[len(a)-1])
}
