package nat

import "bspregion/api"

const maxShift = 1 << 20

// Shl returns a * 2^k; k is taken as 2^20 if it is greater.
func Shl(a api.Nat, k uint) api.Nat {
	return shiftLeft(a, min(k, maxShift))
}

// shiftLeft is Shl without the limit, which intermediate values of longer numbers would exceed.
func shiftLeft(a api.Nat, k uint) api.Nat {
	a = trim(a)
	if len(a) == 0 {
		return nil
	}
	zeros, shift := int(k/digitBits), k%digitBits
	result := make(api.Nat, zeros+len(a)+1)
	carry := uint64(0)
	for i, d := range a {
		carry |= uint64(d) << shift
		result[zeros+i] = uint32(carry)
		carry >>= digitBits
	}
	result[zeros+len(a)] = uint32(carry)
	return trim(result)
}

// Shr returns a / 2^k, rounded down.
func Shr(a api.Nat, k uint) api.Nat {
	a = trim(a)
	if k/digitBits >= uint(len(a)) {
		return nil
	}
	a = a[k/digitBits:]
	shift := k % digitBits
	result := make(api.Nat, len(a))
	for i := range len(a) {
		result[i] = uint32((digit(a, i+1)<<digitBits | digit(a, i)) >> shift)
	}
	return trim(result)
}
