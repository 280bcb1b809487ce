package rational_test

import (
	"math/big"
	"testing"

	"bspregion/api"
)

// wholeToBig converts a without the packages of the project.
func wholeToBig(a api.Nat) *big.Int {
	n := new(big.Int)
	for i := len(a) - 1; i >= 0; i-- {
		n.Lsh(n, 32)
		n.Or(n, new(big.Int).SetUint64(uint64(a[i])))
	}
	return n
}

// toBig converts a, where the denominator 0 stands for the number 0, without the packages of the project.
func toBig(a api.Rat) *big.Rat {
	num, den := wholeToBig(a.Num.Abs), wholeToBig(a.Den)
	if den.Sign() == 0 {
		return new(big.Rat)
	}
	if a.Num.Neg {
		num.Neg(num)
	}
	return new(big.Rat).SetFrac(num, den)
}

// short reports whether a has no zeros at the end.
func short(a api.Nat) bool {
	return len(a) == 0 || a[len(a)-1] != 0
}

// check compares the digits of got with those of want, which is in lowest terms: so it demands the normal form.
func check(t *testing.T, name string, got api.Rat, want *big.Rat) {
	t.Helper()
	checkInt(t, name, got.Num, want.Num())
	if !short(got.Den) || wholeToBig(got.Den).Cmp(want.Denom()) != 0 {
		t.Fatalf("%s: the denominator %v of %v", name, got.Den, want)
	}
}

// checkInt compares the digits of got with those of want, and demands the normal form.
func checkInt(t *testing.T, name string, got api.Int, want *big.Int) {
	t.Helper()
	if !short(got.Abs) || wholeToBig(got.Abs).Cmp(new(big.Int).Abs(want)) != 0 || got.Neg != (want.Sign() < 0) {
		t.Fatalf("%s: %v, not %v", name, got, want)
	}
}

// checkNone demands the zero value.
func checkNone(t *testing.T, name string, got api.Rat) {
	t.Helper()
	if got.Num.Neg || len(got.Num.Abs)+len(got.Den) != 0 {
		t.Fatalf("%s: %v, not the zero value", name, got)
	}
}

// small is num / den, as it is written: den is a number without a sign.
func small(num int32, den uint32) api.Rat {
	if num < 0 {
		return api.Rat{Num: api.Int{Neg: true, Abs: api.Nat{-uint32(num)}}, Den: api.Nat{den}}
	}
	return api.Rat{Num: api.Int{Abs: api.Nat{uint32(num)}}, Den: api.Nat{den}}
}

// integers are numerators of different lengths, some not in normal form.
func integers() []api.Int {
	var list []api.Int
	for _, abs := range []api.Nat{
		nil, {0, 0}, {1}, {2, 0}, {6}, {15, 0, 0}, {0xffffffff}, {0, 1}, {0xffffffff, 0xffffffff},
		{0, 0, 6}, {12, 34, 56, 78, 90}, {0x80000000, 0, 0xfffffffe, 0x7fffffff, 0},
	} {
		list = append(list, api.Int{Abs: abs}, api.Int{Neg: true, Abs: abs})
	}
	return list
}

// naturals are denominators of different lengths, some not in normal form or 0.
func naturals() []api.Nat {
	return []api.Nat{
		nil, {0, 0}, {1}, {1, 0}, {2}, {6, 0}, {35}, {0xffffffff}, {0, 3}, {0xfffffffe, 1, 0},
		{0, 0, 4}, {9, 0, 0, 0x80000000}, {24, 68, 112, 156, 180},
	}
}

// samples are fractions in lowest terms and others, with both signs.
func samples() []api.Rat {
	var list []api.Rat
	for _, num := range integers() {
		for _, den := range naturals() {
			list = append(list, api.Rat{Num: num, Den: den})
		}
	}
	return list
}

// pairs calls test with all pairs of samples.
func pairs(test func(a, b api.Rat)) {
	list := samples()
	for _, a := range list {
		for _, b := range list {
			test(a, b)
		}
	}
}

// smallPairs calls test with all pairs of small fractions, in lowest terms or not.
func smallPairs(test func(a, b api.Rat)) {
	for code := range 9 * 9 * 6 * 6 {
		num := [2]int32{int32(code%9) - 4, int32(code/9%9) - 4}
		den := [2]uint32{uint32(code / 81 % 6), uint32(code / 486)}
		test(small(num[0], den[0]), small(num[1], den[1]))
	}
}
