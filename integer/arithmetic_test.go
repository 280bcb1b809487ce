package integer_test

import (
	"math/big"
	"testing"

	"bspregion/api"
	"bspregion/integer"
)

// P2.2: Neg and Abs
func TestNegAndAbs(t *testing.T) {
	for _, a := range samples() {
		n := toBig(a)
		check(t, "Neg", integer.Neg(a), new(big.Int).Neg(n))
		checkNat(t, "Abs", integer.Abs(a), new(big.Int).Abs(n))
	}
	checkZero(t, "Neg of 0", integer.Neg(api.Int{}))
	checkZero(t, "Neg of -0", integer.Neg(api.Int{Neg: true, Abs: api.Nat{0}}))
}

// P2.2: Add, Sub and Mul
func TestSumsAndProducts(t *testing.T) {
	pairs(func(a, b api.Int) {
		x, y := toBig(a), toBig(b)
		check(t, "Add", integer.Add(a, b), new(big.Int).Add(x, y))
		check(t, "Sub", integer.Sub(a, b), new(big.Int).Sub(x, y))
		check(t, "Mul", integer.Mul(a, b), new(big.Int).Mul(x, y))
	})
}

// P2.2: Add, Sub and Mul whose result is 0, which has no minus sign
func TestZeroResults(t *testing.T) {
	zero, five := api.Int{Neg: true, Abs: api.Nat{0}}, integer.FromInt(-5)
	checkZero(t, "-5 + 5", integer.Add(five, integer.FromInt(5)))
	checkZero(t, "5 + -5", integer.Add(integer.FromInt(5), five))
	checkZero(t, "-5 - -5", integer.Sub(five, five))
	checkZero(t, "-0 + -0", integer.Add(zero, zero))
	checkZero(t, "-0 - 0", integer.Sub(zero, api.Int{}))
	checkZero(t, "-5 * 0", integer.Mul(five, api.Int{}))
	checkZero(t, "-0 * 7", integer.Mul(zero, integer.FromInt(7)))
}

// P2.2: DivMod of small numbers, by the words of the promise
func TestDivModSmall(t *testing.T) {
	for a := int64(-30); a <= 30; a++ {
		for b := int64(-9); b <= 9; b++ {
			if b == 0 {
				continue
			}
			size := max(b, -b)
			q := int64(-100)
			for (q+1)*size <= a {
				q++
			}
			if b < 0 {
				q = -q
			}
			quotient, rest, ok := integer.DivMod(integer.FromInt(a), integer.FromInt(b))
			if !ok {
				t.Fatal(a, b, ok)
			}
			check(t, "quotient", quotient, big.NewInt(q))
			check(t, "remainder", rest, big.NewInt(a-q*b))
		}
	}
}

// P2.2: DivMod of all pairs of signs
func TestDivModSigns(t *testing.T) {
	for _, c := range []struct{ a, b, q, r int64 }{
		{7, 2, 3, 1}, {-7, 2, -4, 1}, {7, -2, -3, 1}, {-7, -2, 4, 1},
		{6, 2, 3, 0}, {-6, 2, -3, 0}, {6, -2, -3, 0}, {-6, -2, 3, 0},
		{1, 5, 0, 1}, {-1, 5, -1, 4}, {1, -5, 0, 1}, {-1, -5, 1, 4},
		{0, 5, 0, 0}, {0, -5, 0, 0},
	} {
		quotient, rest, ok := integer.DivMod(integer.FromInt(c.a), integer.FromInt(c.b))
		if !ok {
			t.Error(c, ok)
		}
		check(t, "quotient", quotient, big.NewInt(c.q))
		check(t, "remainder", rest, big.NewInt(c.r))
	}
}

// P2.2: DivMod of long numbers, and by 0
func TestDivMod(t *testing.T) {
	pairs(func(a, b api.Int) {
		quotient, rest, ok := integer.DivMod(a, b)
		x, y := toBig(a), toBig(b)
		if ok != (y.Sign() != 0) {
			t.Fatal(a, b, ok)
		}
		if !ok {
			checkZero(t, "quotient", quotient)
			checkZero(t, "remainder", rest)
			return
		}
		// DivMod of math/big has a remainder that is at least 0, too.
		q, r := new(big.Int).DivMod(x, y, new(big.Int))
		check(t, "quotient", quotient, q)
		check(t, "remainder", rest, r)
		back := integer.Add(integer.Mul(quotient, b), rest)
		check(t, "q * b + r", back, x)
	})
}

// P2.2: Gcd
func TestGcd(t *testing.T) {
	for _, c := range []struct{ a, b, want int64 }{
		{48, -18, 6}, {-48, 18, 6}, {-48, -18, 6}, {0, -7, 7}, {-7, 0, 7}, {0, 0, 0}, {-5, 3, 1},
	} {
		checkNat(t, "Gcd", integer.Gcd(integer.FromInt(c.a), integer.FromInt(c.b)), big.NewInt(c.want))
	}
	pairs(func(a, b api.Int) {
		x, y := natToBig(a.Abs), natToBig(b.Abs)
		checkNat(t, "Gcd", integer.Gcd(a, b), new(big.Int).GCD(nil, nil, x, y))
	})
}
