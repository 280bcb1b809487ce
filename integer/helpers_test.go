package integer_test

import (
	"math/big"
	"testing"

	"bspregion/api"
)

// toBig converts a without the packages of the project.
func toBig(a api.Int) *big.Int {
	n := natToBig(a.Abs)
	if a.Neg {
		n.Neg(n)
	}
	return n
}

// natToBig converts a without the packages of the project.
func natToBig(a api.Nat) *big.Int {
	n := new(big.Int)
	for i := len(a) - 1; i >= 0; i-- {
		n.Lsh(n, 32)
		n.Or(n, new(big.Int).SetUint64(uint64(a[i])))
	}
	return n
}

// check compares got with the integer want, and demands the normal form.
func check(t *testing.T, name string, got api.Int, want *big.Int) {
	t.Helper()
	checkNat(t, name, got.Abs, new(big.Int).Abs(want))
	if got.Neg != (want.Sign() < 0) {
		t.Fatalf("%s: the minus sign is %v for %v", name, got.Neg, want)
	}
}

// checkNat compares got with the natural number want, and demands the normal form.
func checkNat(t *testing.T, name string, got api.Nat, want *big.Int) {
	t.Helper()
	if n := len(got); n > 0 && got[n-1] == 0 {
		t.Fatalf("%s: %v is not in normal form", name, got)
	}
	if natToBig(got).Cmp(want) != 0 {
		t.Fatalf("%s: %v, not %v", name, natToBig(got), want)
	}
}

// checkZero demands a zero value.
func checkZero(t *testing.T, name string, got api.Int) {
	t.Helper()
	if got.Neg || len(got.Abs) != 0 {
		t.Fatalf("%s: %v, not 0", name, got)
	}
}

// absolutes are natural numbers of different lengths, some with zeros at the end.
func absolutes() []api.Nat {
	list := []api.Nat{
		nil, {}, {0}, {0, 0, 0}, {1}, {1, 0}, {2}, {3}, {6, 0, 0}, {7}, {0x7fffffff}, {0xffffffff},
		{0, 1}, {1, 1}, {0xfffffffe, 0xffffffff}, {0xffffffff, 0x7fffffff}, {0, 0x80000000}, {1, 0x80000000, 0}, {0xffffffff, 0xffffffff},
		{0, 0, 1}, {0xffffffff, 0xffffffff, 0xffffffff, 0, 0}, {5, 0, 0, 0x80000000},
	}
	state := uint64(1)
	for n := range 9 {
		a := make(api.Nat, n+1)
		for i := range a {
			state = state*6364136223846793005 + 1442695040888963407
			a[i] = uint32(state >> 32)
		}
		list = append(list, a, append(a[:n:n], 1, 0))
	}
	return list
}

// samples are the absolutes with both signs, 0 included.
func samples() []api.Int {
	var list []api.Int
	for _, abs := range absolutes() {
		list = append(list, api.Int{Abs: abs}, api.Int{Neg: true, Abs: abs})
	}
	return list
}

// pairs calls test with all pairs of samples.
func pairs(test func(a, b api.Int)) {
	for _, a := range samples() {
		for _, b := range samples() {
			test(a, b)
		}
	}
}
