package rational_test

import (
	"math"
	"math/big"
	"testing"

	"bspregion/api"
	"bspregion/rational"
)

// P3.1: Norm
func TestNorm(t *testing.T) {
	for _, a := range samples() {
		check(t, "Norm", rational.Norm(a), toBig(a))
	}
	smallPairs(func(a, b api.Rat) {
		check(t, "Norm", rational.Norm(a), toBig(a))
	})
}

// P3.1: Norm of the fractions that stand for 0
func TestNormZero(t *testing.T) {
	for _, a := range []api.Rat{
		{},
		{Num: api.Int{Neg: true}},
		{Num: api.Int{Abs: api.Nat{7}}},
		{Num: api.Int{Neg: true, Abs: api.Nat{7}}, Den: api.Nat{0, 0}},
		{Den: api.Nat{1}},
		{Num: api.Int{Neg: true, Abs: api.Nat{0}}, Den: api.Nat{5}},
	} {
		check(t, "Norm", rational.Norm(a), new(big.Rat))
	}
}

// P3.1: Normal
func TestNormal(t *testing.T) {
	one := api.Nat{1}
	for _, c := range []struct {
		a    api.Rat
		want bool
	}{
		{api.Rat{}, false},
		{api.Rat{Den: one}, true},
		{api.Rat{Den: api.Nat{2}}, false},
		{api.Rat{Num: api.Int{Abs: api.Nat{}}, Den: one}, true},
		{api.Rat{Num: api.Int{Neg: true}, Den: one}, false},
		{api.Rat{Num: api.Int{Abs: api.Nat{0}}, Den: one}, false},
		{api.Rat{Num: api.Int{Abs: one}, Den: api.Nat{}}, false},
		{api.Rat{Num: api.Int{Abs: one}, Den: api.Nat{0}}, false},
		{api.Rat{Num: api.Int{Abs: one}, Den: api.Nat{1, 0}}, false},
		{api.Rat{Num: api.Int{Abs: api.Nat{1, 0}}, Den: one}, false},
		{small(2, 3), true},
		{small(-2, 3), true},
		{small(4, 6), false},
		{small(-3, 3), false},
		{api.Rat{Num: api.Int{Abs: api.Nat{0, 1}}, Den: api.Nat{3}}, true},
		{api.Rat{Num: api.Int{Abs: api.Nat{0, 1}}, Den: api.Nat{2}}, false},
		{api.Rat{Num: api.Int{Abs: api.Nat{0, 0, 3}}, Den: api.Nat{0, 5}}, false},
	} {
		if got := rational.Normal(c.a); got != c.want {
			t.Error(c.a, got)
		}
	}
	for _, a := range samples() {
		if !rational.Normal(rational.Norm(a)) {
			t.Error("Norm of", a)
		}
	}
}

// P3.1: Normal of all samples, by the words of the chapter
func TestNormalSamples(t *testing.T) {
	for _, a := range samples() {
		num, den := wholeToBig(a.Num.Abs), wholeToBig(a.Den)
		want := short(a.Num.Abs) && short(a.Den) && den.Sign() != 0 && !(a.Num.Neg && num.Sign() == 0) &&
			new(big.Int).GCD(nil, nil, num, den).Cmp(big.NewInt(1)) == 0
		if got := rational.Normal(a); got != want {
			t.Error(a, got)
		}
	}
}

// P3.1: New
func TestNew(t *testing.T) {
	for _, c := range []struct {
		num, den api.Int
		want     *big.Rat
	}{
		{api.Int{Abs: api.Nat{6}}, api.Int{Neg: true, Abs: api.Nat{4}}, big.NewRat(-3, 2)},
		{api.Int{Neg: true, Abs: api.Nat{6}}, api.Int{Neg: true, Abs: api.Nat{4}}, big.NewRat(3, 2)},
		{api.Int{Neg: true, Abs: api.Nat{6, 0}}, api.Int{Abs: api.Nat{4, 0}}, big.NewRat(-3, 2)},
		{api.Int{}, api.Int{Neg: true, Abs: api.Nat{4}}, new(big.Rat)},
		{api.Int{Neg: true, Abs: api.Nat{0}}, api.Int{Abs: api.Nat{4}}, new(big.Rat)},
		{api.Int{Abs: api.Nat{0, 4}}, api.Int{Neg: true, Abs: api.Nat{0, 2}}, big.NewRat(-2, 1)},
	} {
		got, ok := rational.New(c.num, c.den)
		if !ok {
			t.Error(c.num, c.den, ok)
		}
		check(t, "New", got, c.want)
	}
	for _, num := range integers() {
		for _, den := range integers() {
			got, ok := rational.New(num, den)
			want := toBig(api.Rat{Num: num, Den: den.Abs})
			if den.Neg {
				want.Neg(want)
			}
			check(t, "New", got, want)
			if ok != (wholeToBig(den.Abs).Sign() != 0) {
				t.Error(num, den, ok)
			}
		}
	}
}

// P3.1: New returns 0, which is in normal form, and false if the denominator is 0.
func TestNewZeroDenominator(t *testing.T) {
	for _, den := range []api.Int{{}, {Neg: true}, {Abs: api.Nat{0, 0}}, {Neg: true, Abs: api.Nat{0}}} {
		for _, num := range integers() {
			got, ok := rational.New(num, den)
			if ok {
				t.Error(num, den, ok)
			}
			check(t, "New", got, new(big.Rat))
		}
	}
}

// P3.1: FromInt
func TestFromInt(t *testing.T) {
	for _, n := range []int64{0, 1, -1, 7, -7, 1 << 32, -1 << 32, math.MaxInt64, math.MinInt64 + 1, math.MinInt64} {
		check(t, "FromInt", rational.FromInt(n), new(big.Rat).SetInt64(n))
	}
}

// P3.1: Sign
func TestSign(t *testing.T) {
	for _, a := range samples() {
		if got := rational.Sign(a); got != toBig(a).Sign() {
			t.Error(a, got)
		}
	}
	if got := rational.Sign(small(-7, 0)); got != 0 {
		t.Error("-7/0:", got)
	}
	if got := rational.Sign(api.Rat{Num: api.Int{Neg: true, Abs: api.Nat{0}}, Den: api.Nat{2}}); got != 0 {
		t.Error("-0/2:", got)
	}
}

// P3.1: Cmp
func TestCmp(t *testing.T) {
	for _, c := range []struct {
		a, b api.Rat
		want int
	}{
		{api.Rat{}, small(0, 5), 0},
		{small(-1, 0), small(0, 5), 0},
		{small(7, 0), small(1, 5), -1},
		{small(-7, 0), small(-1, 5), 1},
		{small(2, 3), small(4, 6), 0},
		{small(-2, 3), small(-4, 6), 0},
		{small(1, 2), small(1, 3), 1},
		{small(-1, 2), small(-1, 3), -1},
		{small(-1, 2), small(1, 3), -1},
		{small(333333333, 1000000000), small(1, 3), -1},
	} {
		if got := rational.Cmp(c.a, c.b); got != c.want {
			t.Error(c.a, c.b, got)
		}
	}
	test := func(a, b api.Rat) {
		if got := rational.Cmp(a, b); got != toBig(a).Cmp(toBig(b)) {
			t.Fatal(a, b, got)
		}
	}
	pairs(test)
	smallPairs(test)
}
