package nat_test

import (
	"math"
	"math/big"
	"testing"

	"bspregion/api"
	"bspregion/nat"
)

// shifts are numbers of bits next to the borders of digits.
func shifts() []uint {
	return []uint{0, 1, 2, 31, 32, 33, 63, 64, 65, 95, 96, 100, 320, 1000}
}

// P1.3: Shl and Shr
func TestShifts(t *testing.T) {
	for _, a := range samples() {
		for _, k := range shifts() {
			check(t, "Shl", nat.Shl(a, k), new(big.Int).Lsh(toBig(a), k))
			check(t, "Shr", nat.Shr(a, k), new(big.Int).Rsh(toBig(a), k))
		}
	}
}

// P1.3: Shl shifts by 2^20 at most
func TestShlLimit(t *testing.T) {
	a := api.Nat{5, 0}
	want := new(big.Int).Lsh(big.NewInt(5), 1<<20)
	for _, k := range []uint{1 << 20, 1<<20 + 1, 1 << 31, 1 << 32, 1 << 40, math.MaxUint} {
		check(t, "Shl", nat.Shl(a, k), want)
		check(t, "Shl of 0", nat.Shl(api.Nat{0}, k), new(big.Int))
	}
	check(t, "Shl below the limit", nat.Shl(a, 1<<20-1), want.Rsh(want, 1))
}

// P1.3: Shr has no limit
func TestShrFar(t *testing.T) {
	a := nat.Shl(nat.Shl(api.Nat{5}, 1<<20), 1<<20)
	check(t, "Shr", nat.Shr(a, 1<<21), big.NewInt(5))
	check(t, "Shr by one more", nat.Shr(a, 1<<21+1), big.NewInt(2))
	check(t, "Shr of all bits", nat.Shr(a, 1<<21+3), new(big.Int))
	check(t, "Shr by the most", nat.Shr(a, math.MaxUint), new(big.Int))
	check(t, "Shr of zeros", nat.Shr(api.Nat{3, 0, 0}, 33), new(big.Int))
}

// P1.3: Bits
func TestBits(t *testing.T) {
	for _, a := range samples() {
		if got := nat.Bits(a); got != toBig(a).BitLen() {
			t.Error(a, got)
		}
	}
	for n := range 100 {
		power := nat.Shl(api.Nat{1}, uint(n))
		less, _ := nat.Sub(power, api.Nat{1})
		if nat.Bits(power) != n+1 || nat.Bits(less) != n {
			t.Error(n, nat.Bits(power), nat.Bits(less))
		}
	}
}
