package nat_test

import (
	"math/big"
	"testing"

	"bspregion/api"
	"bspregion/nat"
)

// P1.2: Cmp
func TestCmp(t *testing.T) {
	for _, c := range []struct {
		a, b api.Nat
		want int
	}{
		{nil, api.Nat{0, 0}, 0},
		{nil, api.Nat{1}, -1},
		{api.Nat{1}, nil, 1},
		{api.Nat{1, 0, 0}, api.Nat{1}, 0},
		{api.Nat{2}, api.Nat{1, 0, 0}, 1},
		{api.Nat{0xffffffff}, api.Nat{0, 1}, -1},
		{api.Nat{1, 2}, api.Nat{2, 1}, 1},
		{api.Nat{1, 2}, api.Nat{2, 2}, -1},
	} {
		if got := nat.Cmp(c.a, c.b); got != c.want {
			t.Error(c.a, c.b, got)
		}
	}
	pairs(func(a, b api.Nat) {
		if got := nat.Cmp(a, b); got != toBig(a).Cmp(toBig(b)) {
			t.Fatal(a, b, got)
		}
	})
}

// P1.2: Add, Sub and Mul
func TestSumsAndProducts(t *testing.T) {
	if a := nat.Add(api.Nat{0xffffffff}, api.Nat{1}); len(a) != 2 || a[0] != 0 || a[1] != 1 {
		t.Error("a carry:", a)
	}
	pairs(func(a, b api.Nat) {
		check(t, "Add", nat.Add(a, b), new(big.Int).Add(toBig(a), toBig(b)))
		check(t, "Mul", nat.Mul(a, b), new(big.Int).Mul(toBig(a), toBig(b)))
		difference, ok := nat.Sub(a, b)
		if toBig(a).Cmp(toBig(b)) < 0 {
			if len(difference) != 0 || ok {
				t.Fatal(a, "-", b, difference, ok)
			}
			return
		}
		check(t, "Sub", difference, new(big.Int).Sub(toBig(a), toBig(b)))
		if !ok {
			t.Fatal(a, "-", b, ok)
		}
	})
}

// P1.2: a borrow goes through all digits
func TestSubBorrow(t *testing.T) {
	got, ok := nat.Sub(api.Nat{0, 0, 0, 1}, api.Nat{1, 0})
	if !ok || nat.Cmp(got, api.Nat{0xffffffff, 0xffffffff, 0xffffffff}) != 0 {
		t.Error(got, ok)
	}
	if got, ok = nat.Sub(api.Nat{5, 0}, api.Nat{5}); !ok || len(got) != 0 {
		t.Error("5 - 5:", got, ok)
	}
}

// checkDivMod compares the results of DivMod with those of math/big.
func checkDivMod(t *testing.T, a, b api.Nat) {
	t.Helper()
	quotient, rest, ok := nat.DivMod(a, b)
	if toBig(b).Sign() == 0 {
		if ok || len(quotient) != 0 || len(rest) != 0 {
			t.Fatal(a, "/ 0:", quotient, rest, ok)
		}
		return
	}
	if !ok {
		t.Fatal(a, "/", b, ok)
	}
	q, r := new(big.Int).QuoRem(toBig(a), toBig(b), new(big.Int))
	check(t, "quotient", quotient, q)
	check(t, "remainder", rest, r)
}

// P1.2: DivMod
func TestDivMod(t *testing.T) {
	quotient, rest, ok := nat.DivMod(api.Nat{7}, api.Nat{2})
	if nat.Cmp(quotient, api.Nat{3}) != 0 || nat.Cmp(rest, api.Nat{1}) != 0 || !ok {
		t.Error("7 / 2:", quotient, rest, ok)
	}
	pairs(func(a, b api.Nat) {
		checkDivMod(t, a, b)
		checkDivMod(t, nat.Mul(a, b), b)
		if less, ok := nat.Sub(nat.Mul(a, b), api.Nat{1}); ok {
			checkDivMod(t, less, b)
		}
	})
}

// P1.2: digits of the quotient whose estimate is too great
func TestDivModEstimates(t *testing.T) {
	for _, c := range []struct{ a, b api.Nat }{
		{api.Nat{3, 0, 0x80000000}, api.Nat{1, 0, 0x20000000}},
		{api.Nat{0, 0, 0x80000000, 0x7fffffff}, api.Nat{1, 0, 0x80000000}},
		{api.Nat{0, 0xfffffffe, 0x80000000}, api.Nat{0xffffffff, 0x80000000}},
		{api.Nat{0, 0, 0, 0x80000000}, api.Nat{0xffffffff, 0, 0x80000000}},
		{api.Nat{0xffffffff, 0xffffffff, 0xffffffff, 0xffffffff}, api.Nat{0xffffffff, 0xffffffff}},
		{api.Nat{0, 0, 0xffffffff, 0xfffffffe}, api.Nat{0xffffffff, 0xffffffff, 0xffffffff}},
	} {
		checkDivMod(t, c.a, c.b)
	}
	borders := []uint32{0, 1, 0x7fffffff, 0x80000000, 0xffffffff}
	for code := range 5 * 5 * 5 * 5 * 5 * 5 * 5 {
		var digits [7]uint32
		for i := range digits {
			digits[i] = borders[code%5]
			code /= 5
		}
		checkDivMod(t, digits[:4], digits[4:])
	}
}
