package point_test

import (
	"math/big"
	"testing"

	"bspregion/api"
	"bspregion/point"
	"bspregion/rational"
)

// P4.2: Add, Sub, Dot and Cross
func TestSums(t *testing.T) {
	pairs(func(p, q api.Point) {
		u, v := toPair(p), toPair(q)
		check(t, "Add", point.Add(p, q), u.add(v))
		check(t, "Sub", point.Sub(p, q), u.sub(v))
		checkNumber(t, "Dot", point.Dot(p, q), u.dot(v))
		checkNumber(t, "Cross", point.Cross(p, q), u.cross(v))
	})
}

// P4.2: Scale
func TestScale(t *testing.T) {
	for _, c := range coordinates() {
		for _, p := range samples() {
			check(t, "Scale", point.Scale(c, p), toPair(p).scale(toBig(c)))
		}
	}
}

// P4.2: sums, differences, multiples and products by hand
func TestVectorExamples(t *testing.T) {
	p, q := at("1/2", "-3"), api.Point{X: raw(2, 4), Y: raw(10, 2)}
	check(t, "Add", point.Add(p, q), pair{big.NewRat(1, 1), big.NewRat(2, 1)})
	check(t, "Sub", point.Sub(p, q), pair{new(big.Rat), big.NewRat(-8, 1)})
	check(t, "Scale", point.Scale(raw(-4, 6), p), pair{big.NewRat(-1, 3), big.NewRat(2, 1)})
	check(t, "Scale by 7/0", point.Scale(raw(7, 0), p), pair{new(big.Rat), new(big.Rat)})
	checkNumber(t, "Dot", point.Dot(p, q), big.NewRat(-59, 4))
	checkNumber(t, "Cross", point.Cross(p, q), big.NewRat(4, 1))
	checkNumber(t, "Cross of (1,0) and (0,1)", point.Cross(at("1", "0"), at("0", "1")), big.NewRat(1, 1))
	checkNumber(t, "Cross of (0,1) and (1,0)", point.Cross(at("0", "1"), at("1", "0")), big.NewRat(-1, 1))
	checkNumber(t, "Cross of the zero value", point.Cross(api.Point{}, at("1", "1")), new(big.Rat))
	checkNumber(t, "Dot of the zero value", point.Dot(api.Point{}, at("1", "1")), new(big.Rat))
}

// P4.2: Orient is the sign of Cross(b - a, c - a).
func TestOrient(t *testing.T) {
	triples(func(a, b, c api.Point) {
		u, v, w := toPair(a), toPair(b), toPair(c)
		checkSign(t, "Orient", point.Orient(a, b, c), v.sub(u).cross(w.sub(u)).Sign())
	})
}

// P4.2: turns by hand, some so slight that rounding would hide them
func TestOrientExamples(t *testing.T) {
	far, farther := "10000000000000000000000000000000000000000", "10000000000000000000000000000000000000001"
	for _, c := range []struct {
		a, b, c api.Point
		want    int
	}{
		{at("0", "0"), at("1", "0"), at("0", "1"), 1},
		{at("0", "0"), at("0", "1"), at("1", "0"), -1},
		{at("1", "1"), at("2", "2"), at("-7/2", "-7/2"), 0},
		{at("1", "1"), at("1", "1"), at("5", "0"), 0},
		{at("1", "1"), at("5", "0"), at("1", "1"), 0},
		{at("5", "0"), at("1", "1"), at("1", "1"), 0},
		{at("1", "1"), api.Point{X: raw(2, 2), Y: raw(3, 3)}, at("5", "0"), 0},
		{at("0", "0"), at(far, far), at(far, farther), 1},
		{at("0", "0"), at(far, far), at(farther, far), -1},
		{at("1/3", "1/3"), at(far, far), at("1/"+far, "1/"+far), 0},
		{at("1/3", "1/3"), at(far, far), at("1/"+far, "1/"+farther), -1},
	} {
		checkSign(t, "Orient", point.Orient(c.a, c.b, c.c), c.want)
	}
}

// Consequences: Orient under permutations of its arguments
func TestOrientPermutations(t *testing.T) {
	triples(func(a, b, c api.Point) {
		want := point.Orient(a, b, c)
		checkSign(t, "a cyclic permutation", point.Orient(b, c, a), want)
		checkSign(t, "an exchange", point.Orient(b, a, c), -want)
	})
}

// P4.4: Primitive
func TestPrimitive(t *testing.T) {
	for _, c := range []struct{ v, want api.Point }{
		{at("1/2", "-3/4"), at("2", "-3")},
		{at("-1/2", "3/4"), at("-2", "3")},
		{at("6", "4"), at("3", "2")},
		{at("-6", "-4"), at("-3", "-2")},
		{at("5/7", "0"), at("1", "0")},
		{at("-5/7", "0"), at("-1", "0")},
		{at("0", "5/7"), at("0", "1")},
		{at("0", "-10"), at("0", "-1")},
		{at("1/6", "1/10"), at("5", "3")},
		{at("2/3", "2/5"), at("5", "3")},
		{at("1", "1"), at("1", "1")},
		{at("36893488147419103232", "-18446744073709551616/3"), at("6", "-1")},
		{api.Point{X: raw(2, 4), Y: raw(-6, 8)}, at("2", "-3")},
		{api.Point{X: raw(5, 0), Y: raw(-6, 8)}, at("0", "-1")},
		{api.Point{X: raw(-4, 6), Y: raw(5, 0)}, at("-1", "0")},
	} {
		check(t, "Primitive of "+point.Format(c.v), point.Primitive(c.v), toPair(c.want))
	}
}

// P4.4: Primitive of the vector 0
func TestPrimitiveZero(t *testing.T) {
	for _, zero := range []api.Point{{}, at("0", "0"), {X: raw(7, 0), Y: raw(-7, 0)}, {X: raw(0, 3), Y: raw(7, 0)}} {
		check(t, "Primitive", point.Primitive(zero), pair{new(big.Rat), new(big.Rat)})
	}
}

// P4.4: Primitive by the words of the promise
func TestPrimitiveSamples(t *testing.T) {
	for _, p := range samples() {
		v, got := toPair(p), toPair(point.Primitive(p))
		if !point.Normal(point.Primitive(p)) || !got.x.IsInt() || !got.y.IsInt() {
			t.Fatal(p, got)
		}
		if v.dot(v).Sign() == 0 {
			continue
		}
		abs := func(a *big.Rat) *big.Int { return new(big.Int).Abs(a.Num()) }
		if divisor := new(big.Int).GCD(nil, nil, abs(got.x), abs(got.y)); divisor.Cmp(big.NewInt(1)) != 0 {
			t.Fatal(p, got, divisor)
		}
		if v.cross(got).Sign() != 0 || v.dot(got).Sign() <= 0 {
			t.Fatal(p, got)
		}
	}
}

// Consequences: positive multiples have the same primitive vector and the same angle, negative ones have not.
func TestPrimitiveMultiples(t *testing.T) {
	for _, p := range samples() {
		v := toPair(p)
		for _, c := range []api.Rat{number("3"), number("5/7"), number("1/18446744073709551617")} {
			multiple, opposite := point.Scale(c, p), point.Scale(rational.Neg(c), p)
			check(t, "Primitive of a multiple", point.Primitive(multiple), toPair(point.Primitive(p)))
			checkSign(t, "Angle of a multiple", point.Angle(p, multiple), 0)
			if zero := v.dot(v).Sign() == 0; (point.Angle(p, opposite) == 0) != zero {
				t.Fatal(p, opposite)
			}
		}
	}
}
