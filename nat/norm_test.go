package nat_test

import (
	"math"
	"math/big"
	"testing"

	"bspregion/api"
	"bspregion/nat"
)

// P1.1: Norm
func TestNorm(t *testing.T) {
	for _, a := range samples() {
		check(t, "Norm", nat.Norm(a), toBig(a))
	}
	if a := nat.Norm(api.Nat{7, 0, 3, 0, 0}); len(a) != 3 || a[0] != 7 || a[1] != 0 || a[2] != 3 {
		t.Error(a)
	}
}

// P1.1: Normal
func TestNormal(t *testing.T) {
	for _, c := range []struct {
		a    api.Nat
		want bool
	}{
		{nil, true},
		{api.Nat{}, true},
		{api.Nat{0}, false},
		{api.Nat{0, 0}, false},
		{api.Nat{1}, true},
		{api.Nat{1, 0}, false},
		{api.Nat{0, 1}, true},
		{api.Nat{0, 1, 0}, false},
	} {
		if got := nat.Normal(c.a); got != c.want {
			t.Error(c.a, got)
		}
	}
}

// P1.1: FromUint and Uint
func TestUint(t *testing.T) {
	for _, u := range []uint64{0, 1, 7, 1<<32 - 1, 1 << 32, 1<<32 + 1, 1<<63 - 1, 1 << 63, math.MaxUint64} {
		a := nat.FromUint(u)
		check(t, "FromUint", a, new(big.Int).SetUint64(u))
		if got, ok := nat.Uint(a); got != u || !ok {
			t.Error(u, got, ok)
		}
		if got, ok := nat.Uint(append(a, 0, 0, 0)); got != u || !ok {
			t.Error(u, "with zeros:", got, ok)
		}
	}
	for _, a := range []api.Nat{{0, 0, 1}, {5, 6, 7}, {1, 0, 0, 1, 0}, {0xffffffff, 0xffffffff, 0xffffffff}} {
		if got, ok := nat.Uint(a); got != 0 || ok {
			t.Error(a, got, ok)
		}
	}
}
