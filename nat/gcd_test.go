package nat_test

import (
	"math/big"
	"testing"

	"bspregion/api"
	"bspregion/nat"
)

// checkGcd compares Gcd with that of math/big, in both orders.
func checkGcd(t *testing.T, a, b api.Nat) {
	t.Helper()
	want := new(big.Int).GCD(nil, nil, toBig(a), toBig(b))
	check(t, "Gcd", nat.Gcd(a, b), want)
	check(t, "Gcd", nat.Gcd(b, a), want)
}

// P1.4: Gcd
func TestGcd(t *testing.T) {
	check(t, "48 and 18", nat.Gcd(api.Nat{48}, api.Nat{18, 0}), big.NewInt(6))
	check(t, "0 and 0", nat.Gcd(nil, api.Nat{0, 0}), new(big.Int))
	check(t, "0 and 7", nat.Gcd(api.Nat{0}, api.Nat{7, 0}), big.NewInt(7))
	check(t, "7 and 0", nat.Gcd(api.Nat{7}, nil), big.NewInt(7))
	check(t, "0 and 3 digits", nat.Gcd(nil, api.Nat{0, 0, 9, 0}), toBig(api.Nat{0, 0, 9}))
	pairs(func(a, b api.Nat) {
		checkGcd(t, a, b)
	})
}

// P1.4: Gcd of numbers with a common factor
func TestGcdCommonFactor(t *testing.T) {
	seq := sequence(2)
	for n := range 30 {
		factor := seq.number(n + 1)
		a, b := seq.number(n%7+1), seq.number(n%11+1)
		checkGcd(t, nat.Mul(factor, a), nat.Mul(factor, b))
		checkGcd(t, nat.Mul(factor, a), factor)
	}
	checkGcd(t, seq.number(500), seq.number(490))
	checkGcd(t, seq.number(500), seq.number(3))
}

// P1.4: Gcd of neighbours in the sequence of Fibonacci, which takes the most steps
func TestGcdFibonacci(t *testing.T) {
	a, b := api.Nat{1}, api.Nat{1}
	for range 2000 {
		a, b = b, nat.Add(a, b)
	}
	check(t, "neighbours", nat.Gcd(a, b), big.NewInt(1))
	check(t, "multiples", nat.Gcd(nat.Mul(a, api.Nat{6, 1}), nat.Mul(b, api.Nat{6, 1})), toBig(api.Nat{6, 1}))
}

// P1.4: Gcd of numbers whose highest digits are the same or differ much
func TestGcdHighDigits(t *testing.T) {
	a := nat.Shl(api.Nat{1}, 200)
	seq := sequence(3)
	for range 50 {
		b := nat.Add(a, seq.number(2))
		checkGcd(t, a, b)
		checkGcd(t, b, nat.Shr(b, uint(seq.next()%140)))
		checkGcd(t, b, nat.Add(nat.Shl(b, uint(seq.next()%140)), api.Nat{1}))
	}
}
