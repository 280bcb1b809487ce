package integer_test

import (
	"math"
	"math/big"
	"testing"

	"bspregion/api"
	"bspregion/integer"
)

// P2.1: Norm
func TestNorm(t *testing.T) {
	for _, a := range samples() {
		check(t, "Norm", integer.Norm(a), toBig(a))
	}
	checkZero(t, "-0", integer.Norm(api.Int{Neg: true}))
	checkZero(t, "-0 with zeros", integer.Norm(api.Int{Neg: true, Abs: api.Nat{0, 0}}))
	a := integer.Norm(api.Int{Neg: true, Abs: api.Nat{7, 0, 3, 0, 0}})
	if !a.Neg || len(a.Abs) != 3 || a.Abs[0] != 7 || a.Abs[1] != 0 || a.Abs[2] != 3 {
		t.Error(a)
	}
}

// P2.1: Normal
func TestNormal(t *testing.T) {
	for _, c := range []struct {
		a    api.Int
		want bool
	}{
		{api.Int{}, true},
		{api.Int{Abs: api.Nat{}}, true},
		{api.Int{Neg: true}, false},
		{api.Int{Neg: true, Abs: api.Nat{}}, false},
		{api.Int{Abs: api.Nat{0}}, false},
		{api.Int{Neg: true, Abs: api.Nat{0}}, false},
		{api.Int{Abs: api.Nat{1}}, true},
		{api.Int{Neg: true, Abs: api.Nat{1}}, true},
		{api.Int{Abs: api.Nat{1, 0}}, false},
		{api.Int{Neg: true, Abs: api.Nat{1, 0}}, false},
		{api.Int{Neg: true, Abs: api.Nat{0, 1}}, true},
	} {
		if got := integer.Normal(c.a); got != c.want {
			t.Error(c.a, got)
		}
	}
	for _, a := range samples() {
		if !integer.Normal(integer.Norm(a)) {
			t.Error(a)
		}
	}
}

// P2.1: FromInt, and Int64 of numbers in its range
func TestInt64(t *testing.T) {
	for _, n := range []int64{
		0, 1, -1, 7, -7, 1<<32 - 1, -1<<32 + 1, 1 << 32, -1 << 32, 1<<32 + 1, -1<<32 - 1,
		math.MaxInt64 - 1, math.MaxInt64, math.MinInt64 + 1, math.MinInt64,
	} {
		a := integer.FromInt(n)
		check(t, "FromInt", a, big.NewInt(n))
		if got, ok := integer.Int64(a); got != n || !ok {
			t.Error(n, got, ok)
		}
		a.Abs = append(a.Abs, 0, 0, 0)
		if got, ok := integer.Int64(a); got != n || !ok {
			t.Error(n, "with zeros:", got, ok)
		}
	}
	if got, ok := integer.Int64(api.Int{Neg: true, Abs: api.Nat{0}}); got != 0 || !ok {
		t.Error("-0:", got, ok)
	}
}

// P2.1: Int64 of numbers out of its range
func TestInt64Range(t *testing.T) {
	for _, a := range []api.Int{
		{Abs: api.Nat{0, 0x80000000}},
		{Abs: api.Nat{1, 0x80000000}},
		{Neg: true, Abs: api.Nat{1, 0x80000000}},
		{Abs: api.Nat{0xffffffff, 0xffffffff}},
		{Neg: true, Abs: api.Nat{0xffffffff, 0xffffffff}},
		{Abs: api.Nat{0, 0, 1}},
		{Neg: true, Abs: api.Nat{0, 0, 1}},
		{Neg: true, Abs: api.Nat{5, 0, 0, 1, 0}},
	} {
		if got, ok := integer.Int64(a); got != 0 || ok {
			t.Error(a, got, ok)
		}
	}
	for _, a := range samples() {
		n := toBig(a)
		if _, ok := integer.Int64(a); ok != n.IsInt64() {
			t.Error(a, ok)
		}
	}
}

// P2.1: Sign
func TestSign(t *testing.T) {
	for _, a := range samples() {
		if got := integer.Sign(a); got != toBig(a).Sign() {
			t.Error(a, got)
		}
	}
	if got := integer.Sign(api.Int{Neg: true, Abs: api.Nat{0, 0}}); got != 0 {
		t.Error("-0:", got)
	}
	if got := integer.Sign(api.Int{Neg: true, Abs: api.Nat{0, 1, 0}}); got != -1 {
		t.Error("-2^32 with a zero:", got)
	}
}

// P2.1: Cmp
func TestCmp(t *testing.T) {
	for _, c := range []struct {
		a, b api.Int
		want int
	}{
		{api.Int{}, api.Int{Neg: true, Abs: api.Nat{0, 0}}, 0},
		{api.Int{Neg: true, Abs: api.Nat{2}}, api.Int{Neg: true, Abs: api.Nat{1}}, -1},
		{api.Int{Neg: true, Abs: api.Nat{1}}, api.Int{Neg: true, Abs: api.Nat{0, 1}}, 1},
		{api.Int{Neg: true, Abs: api.Nat{9}}, api.Int{Abs: api.Nat{1}}, -1},
		{api.Int{Abs: api.Nat{1}}, api.Int{Neg: true, Abs: api.Nat{9}}, 1},
		{api.Int{Neg: true, Abs: api.Nat{1}}, api.Int{}, -1},
		{api.Int{Neg: true, Abs: api.Nat{3, 0}}, api.Int{Neg: true, Abs: api.Nat{3}}, 0},
	} {
		if got := integer.Cmp(c.a, c.b); got != c.want {
			t.Error(c.a, c.b, got)
		}
	}
	pairs(func(a, b api.Int) {
		if got := integer.Cmp(a, b); got != toBig(a).Cmp(toBig(b)) {
			t.Fatal(a, b, got)
		}
	})
}
