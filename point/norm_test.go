package point_test

import (
	"math"
	"math/big"
	"testing"

	"bspregion/api"
	"bspregion/point"
	"bspregion/rational"
)

// P4.1: Norm
func TestNorm(t *testing.T) {
	for _, p := range samples() {
		check(t, "Norm", point.Norm(p), toPair(p))
	}
	check(t, "Norm of the zero value", point.Norm(api.Point{}), pair{new(big.Rat), new(big.Rat)})
	check(t, "Norm of (4/6,-7/0)", point.Norm(api.Point{X: raw(4, 6), Y: raw(-7, 0)}), pair{big.NewRat(2, 3), new(big.Rat)})
	check(t, "Norm of (7/0,-4/6)", point.Norm(api.Point{X: raw(7, 0), Y: raw(-4, 6)}), pair{new(big.Rat), big.NewRat(-2, 3)})
}

// P4.1: Normal
func TestNormal(t *testing.T) {
	zero, half := number("0"), number("-1/2")
	for _, c := range []struct {
		p    api.Point
		want bool
	}{
		{api.Point{}, false},
		{api.Point{X: zero, Y: zero}, true},
		{api.Point{X: zero}, false},
		{api.Point{Y: zero}, false},
		{api.Point{X: half, Y: zero}, true},
		{api.Point{X: half, Y: raw(1, 1)}, false},
		{api.Point{X: raw(1, 1), Y: half}, false},
		{api.Point{X: half, Y: api.Rat{Num: api.Int{Abs: api.Nat{2}}, Den: api.Nat{4}}}, false},
		{api.Point{X: api.Rat{Num: api.Int{Abs: api.Nat{3}}}, Y: half}, false},
		{api.Point{X: api.Rat{Num: api.Int{Neg: true}, Den: api.Nat{1}}, Y: half}, false},
	} {
		if got := point.Normal(c.p); got != c.want {
			t.Error(c.p, got)
		}
	}
	for _, p := range samples() {
		if got := point.Normal(p); got != (rational.Normal(p.X) && rational.Normal(p.Y)) {
			t.Error(p, got)
		}
		if !point.Normal(point.Norm(p)) {
			t.Error("Norm of", p)
		}
	}
}

// P4.1: Same
func TestSame(t *testing.T) {
	for _, c := range []struct {
		p, q api.Point
		want bool
	}{
		{api.Point{}, at("0", "0"), true},
		{api.Point{X: raw(7, 0)}, api.Point{Y: raw(0, 5)}, true},
		{at("1/2", "-3"), api.Point{X: raw(2, 4), Y: raw(-6, 2)}, true},
		{at("1/2", "-3"), at("1/2", "3"), false},
		{at("1/2", "-3"), at("-1/2", "-3"), false},
		{at("1", "2"), at("2", "1"), false},
		{api.Point{X: raw(7, 0), Y: raw(1, 1)}, at("7", "1"), false},
	} {
		if got := point.Same(c.p, c.q); got != c.want {
			t.Error(c.p, c.q, got)
		}
	}
	pairs(func(p, q api.Point) {
		if got := point.Same(p, q); got != toPair(p).is(toPair(q)) {
			t.Fatal(p, q, got)
		}
	})
}

// P4.1: FromInts
func TestFromInts(t *testing.T) {
	list := []int64{0, 1, -1, 7, -7, 1 << 32, -1 << 32, math.MaxInt64, math.MinInt64 + 1, math.MinInt64}
	for _, x := range list {
		for _, y := range list {
			check(t, "FromInts", point.FromInts(x, y), pair{new(big.Rat).SetInt64(x), new(big.Rat).SetInt64(y)})
		}
	}
}
