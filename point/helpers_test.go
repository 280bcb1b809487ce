package point_test

import (
	"math/big"
	"testing"

	"bspregion/api"
	"bspregion/rational"
)

// number is the rational number of a text.
func number(s string) api.Rat {
	a, err := rational.Parse(s)
	if err != nil {
		panic(s)
	}
	return a
}

// at is the point with the coordinates of two texts.
func at(x, y string) api.Point {
	return api.Point{X: number(x), Y: number(y)}
}

// raw is num / den, as it is written and with a zero at the end of its digits, so never in normal form.
func raw(num int32, den uint32) api.Rat {
	if num < 0 {
		return api.Rat{Num: api.Int{Neg: true, Abs: api.Nat{-uint32(num), 0}}, Den: api.Nat{den, 0}}
	}
	return api.Rat{Num: api.Int{Abs: api.Nat{uint32(num), 0}}, Den: api.Nat{den, 0}}
}

// toBig converts a.
func toBig(a api.Rat) *big.Rat {
	b, ok := new(big.Rat).SetString(rational.Format(a))
	if !ok {
		panic(rational.Format(a))
	}
	return b
}

// pair has the coordinates of a point as numbers of math/big.
type pair struct {
	x, y *big.Rat
}

// toPair converts p.
func toPair(p api.Point) pair {
	return pair{toBig(p.X), toBig(p.Y)}
}

// add is p + q.
func (p pair) add(q pair) pair {
	return pair{new(big.Rat).Add(p.x, q.x), new(big.Rat).Add(p.y, q.y)}
}

// sub is p - q.
func (p pair) sub(q pair) pair {
	return pair{new(big.Rat).Sub(p.x, q.x), new(big.Rat).Sub(p.y, q.y)}
}

// scale is c * p.
func (p pair) scale(c *big.Rat) pair {
	return pair{new(big.Rat).Mul(c, p.x), new(big.Rat).Mul(c, p.y)}
}

// dot is the sum of the products of the coordinates of p and q.
func (p pair) dot(q pair) *big.Rat {
	x, y := new(big.Rat).Mul(p.x, q.x), new(big.Rat).Mul(p.y, q.y)
	return x.Add(x, y)
}

// cross is the product of p.x and q.y less that of p.y and q.x.
func (p pair) cross(q pair) *big.Rat {
	return p.dot(pair{q.y, new(big.Rat).Neg(q.x)})
}

// is reports whether p and q are the same point.
func (p pair) is(q pair) bool {
	return p.x.Cmp(q.x) == 0 && p.y.Cmp(q.y) == 0
}

// check demands that got is want, in normal form.
func check(t *testing.T, name string, got api.Point, want pair) {
	t.Helper()
	checkNumber(t, name+", X", got.X, want.x)
	checkNumber(t, name+", Y", got.Y, want.y)
}

// checkNumber demands that got is want, in normal form.
func checkNumber(t *testing.T, name string, got api.Rat, want *big.Rat) {
	t.Helper()
	if !rational.Normal(got) || rational.Format(got) != want.RatString() {
		t.Fatalf("%s: %v, not %v", name, got, want)
	}
}

// checkSign demands that got is want.
func checkSign(t *testing.T, name string, got, want int) {
	t.Helper()
	if got != want {
		t.Fatalf("%s: %d, not %d", name, got, want)
	}
}

// coordinates are numbers of different lengths, some not in normal form or with the denominator 0.
func coordinates() []api.Rat {
	return []api.Rat{
		{}, raw(0, 3), raw(7, 0), raw(-7, 0), {Num: api.Int{Neg: true}, Den: api.Nat{5}},
		number("1"), raw(-1, 1), raw(2, 4), number("-3/2"), raw(-6, 4), number("7/3"),
		number("18446744073709551617/4294967296"),
		{Num: api.Int{Neg: true, Abs: api.Nat{0, 0, 6}}, Den: api.Nat{0, 4, 0}},
		number("-1/340282366920938463463374607431768211456"),
	}
}

// samples are points with all pairs of coordinates.
func samples() []api.Point {
	var list []api.Point
	for _, x := range coordinates() {
		for _, y := range coordinates() {
			list = append(list, api.Point{X: x, Y: y})
		}
	}
	return list
}

// pairs calls test with many pairs of samples, so that each pair of coordinates occurs in each place.
func pairs(test func(p, q api.Point)) {
	list := samples()
	for i, p := range list {
		for j := i % 3; j < len(list); j += 3 {
			test(p, list[j])
		}
	}
}

// grid are the points whose coordinates are multiples of 1/2 from -n/2 to n/2, not in normal form.
func grid(n int32) []api.Point {
	var list []api.Point
	for x := -n; x <= n; x++ {
		for y := -n; y <= n; y++ {
			list = append(list, api.Point{X: raw(x, 2), Y: raw(2*y, 4)})
		}
	}
	return list
}

// triples calls test with all triples of a small grid and of some samples.
func triples(test func(a, b, c api.Point)) {
	list := grid(1)
	for i, p := range samples() {
		if i%17 == 0 {
			list = append(list, p)
		}
	}
	for _, a := range list {
		for _, b := range list {
			for _, c := range list {
				test(a, b, c)
			}
		}
	}
}
