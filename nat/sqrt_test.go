package nat_test

import (
	"math/big"
	"testing"

	"bspregion/api"
	"bspregion/nat"
)

// checkSqrt compares Sqrt with that of math/big.
func checkSqrt(t *testing.T, a api.Nat) {
	t.Helper()
	check(t, "Sqrt", nat.Sqrt(a), new(big.Int).Sqrt(toBig(a)))
}

// P1.4: Sqrt
func TestSqrt(t *testing.T) {
	for n := range uint32(5000) {
		checkSqrt(t, api.Nat{n, 0})
	}
	for _, a := range samples() {
		checkSqrt(t, a)
		square := nat.Mul(a, a)
		check(t, "root of a square", nat.Sqrt(square), toBig(a))
		if less, ok := nat.Sub(square, api.Nat{1}); ok {
			checkSqrt(t, less)
		}
		checkSqrt(t, nat.Add(square, nat.Add(a, a)))
		checkSqrt(t, nat.Add(nat.Add(square, nat.Add(a, a)), api.Nat{1}))
	}
}

// P1.4: Sqrt of powers of 2 and their neighbours
func TestSqrtPowers(t *testing.T) {
	for k := range uint(300) {
		power := nat.Shl(api.Nat{1}, k)
		less, _ := nat.Sub(power, api.Nat{1})
		checkSqrt(t, less)
		checkSqrt(t, power)
		checkSqrt(t, nat.Add(power, api.Nat{1}))
	}
}
