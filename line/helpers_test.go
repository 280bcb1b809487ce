package line_test

import (
	"math/big"
	"testing"

	"bspregion/api"
	"bspregion/integer"
	"bspregion/rational"
)

// whole is the integer of a text.
func whole(s string) api.Int {
	a, err := integer.Parse(s)
	if err != nil {
		panic(s)
	}
	return a
}

// number is the rational number of a text.
func number(s string) api.Rat {
	a, err := rational.Parse(s)
	if err != nil {
		panic(s)
	}
	return a
}

// at is the point with the coordinates of two texts.
func at(x, y string) api.Point {
	return api.Point{X: number(x), Y: number(y)}
}

// ln is the line with the coefficients of three texts, as they are.
func ln(a, b, c string) api.Line {
	return api.Line{A: whole(a), B: whole(b), C: whole(c)}
}

// raw is n with a zero at the end of its digits, so never in normal form.
func raw(n int32) api.Int {
	if n < 0 {
		return api.Int{Neg: true, Abs: api.Nat{-uint32(n), 0}}
	}
	return api.Int{Abs: api.Nat{uint32(n), 0}}
}

// rawRat is num / den, as it is written and never in normal form.
func rawRat(num int32, den uint32) api.Rat {
	return api.Rat{Num: raw(num), Den: api.Nat{den, 0}}
}

// natToBig converts a without the packages of the project.
func natToBig(a api.Nat) *big.Int {
	n := new(big.Int)
	for i := len(a) - 1; i >= 0; i-- {
		n.Lsh(n, 32)
		n.Or(n, new(big.Int).SetUint64(uint64(a[i])))
	}
	return n
}

// toBig converts a without the packages of the project.
func toBig(a api.Int) *big.Int {
	n := natToBig(a.Abs)
	if a.Neg {
		n.Neg(n)
	}
	return n
}

// toRat converts a without the packages of the project.
func toRat(a api.Rat) *big.Rat {
	den := natToBig(a.Den)
	if den.Sign() == 0 {
		return new(big.Rat)
	}
	return new(big.Rat).SetFrac(toBig(a.Num), den)
}

// pair has the coordinates of a point or vector as numbers of math/big.
type pair struct {
	x, y *big.Rat
}

// toPair converts p.
func toPair(p api.Point) pair {
	return pair{toRat(p.X), toRat(p.Y)}
}

// sub is p - q.
func (p pair) sub(q pair) pair {
	return pair{new(big.Rat).Sub(p.x, q.x), new(big.Rat).Sub(p.y, q.y)}
}

// addScaled is p + t * v.
func (p pair) addScaled(t *big.Rat, v pair) pair {
	x, y := new(big.Rat).Mul(t, v.x), new(big.Rat).Mul(t, v.y)
	return pair{x.Add(x, p.x), y.Add(y, p.y)}
}

// dot is the sum of the products of the coordinates of p and q.
func (p pair) dot(q pair) *big.Rat {
	x, y := new(big.Rat).Mul(p.x, q.x), new(big.Rat).Mul(p.y, q.y)
	return x.Add(x, y)
}

// cross is the product of p.x and q.y less that of p.y and q.x.
func (p pair) cross(q pair) *big.Rat {
	return p.dot(pair{q.y, new(big.Rat).Neg(q.x)})
}

// is reports whether p and q are the same point.
func (p pair) is(q pair) bool {
	return p.x.Cmp(q.x) == 0 && p.y.Cmp(q.y) == 0
}

// form has the coefficients of a line as numbers of math/big.
type form [3]*big.Int

// toForm converts l.
func toForm(l api.Line) form {
	return form{toBig(l.A), toBig(l.B), toBig(l.C)}
}

// divisor is the greatest common divisor of the coefficients.
func (f form) divisor() *big.Int {
	divisor := new(big.Int)
	for _, a := range f {
		divisor.GCD(nil, nil, divisor, new(big.Int).Abs(a))
	}
	return divisor
}

// direction is the vector (B, -A).
func (f form) direction() pair {
	return pair{new(big.Rat).SetInt(f[1]), new(big.Rat).SetInt(new(big.Int).Neg(f[0]))}
}

// value is A x + B y + C.
func (f form) value(p pair) *big.Rat {
	sum := pair{new(big.Rat).SetInt(f[0]), new(big.Rat).SetInt(f[1])}.dot(p)
	return sum.Add(sum, new(big.Rat).SetInt(f[2]))
}

// is reports whether f and g have the same coefficients.
func (f form) is(g form) bool {
	return f[0].Cmp(g[0]) == 0 && f[1].Cmp(g[1]) == 0 && f[2].Cmp(g[2]) == 0
}

// negative has the negatives of the coefficients.
func (f form) negative() form {
	for i, a := range f {
		f[i] = new(big.Int).Neg(a)
	}
	return f
}

// isNormal reports whether a is in normal form, without the packages of the project.
func isNormal(a api.Int) bool {
	n := len(a.Abs)
	return n == 0 && !a.Neg || n > 0 && a.Abs[n-1] != 0
}

// checkLine demands that got is want, with coefficients in normal form.
func checkLine(t *testing.T, name string, got api.Line, want form) {
	t.Helper()
	if !isNormal(got.A) || !isNormal(got.B) || !isNormal(got.C) || !toForm(got).is(want) {
		t.Fatalf("%s: %v, not %v", name, got, want)
	}
}

// checkPoint demands that got is want, in normal form.
func checkPoint(t *testing.T, name string, got api.Point, want pair) {
	t.Helper()
	checkNumber(t, name+", X", got.X, want.x)
	checkNumber(t, name+", Y", got.Y, want.y)
}

// checkNumber demands that got is want, in normal form.
func checkNumber(t *testing.T, name string, got api.Rat, want *big.Rat) {
	t.Helper()
	if !isNormal(got.Num) || !isNormal(api.Int{Abs: got.Den}) || toBig(got.Num).Cmp(want.Num()) != 0 || natToBig(got.Den).Cmp(want.Denom()) != 0 {
		t.Fatalf("%s: %v, not %v", name, got, want)
	}
}

// checkSign demands that got is want.
func checkSign(t *testing.T, name string, got, want int) {
	t.Helper()
	if got != want {
		t.Fatalf("%s: %d, not %d", name, got, want)
	}
}

// checkZero demands the zero value of the type of got.
func checkZero(t *testing.T, name string, got any) {
	t.Helper()
	var list []api.Nat
	negative := false
	switch v := got.(type) {
	case api.Line:
		list, negative = []api.Nat{v.A.Abs, v.B.Abs, v.C.Abs}, v.A.Neg || v.B.Neg || v.C.Neg
	case api.Point:
		list, negative = []api.Nat{v.X.Num.Abs, v.X.Den, v.Y.Num.Abs, v.Y.Den}, v.X.Num.Neg || v.Y.Num.Neg
	case api.Rat:
		list, negative = []api.Nat{v.Num.Abs, v.Den}, v.Num.Neg
	}
	for _, digits := range list {
		negative = negative || len(digits) > 0
	}
	if len(list) == 0 || negative {
		t.Errorf("%s: %v, not the zero value", name, got)
	}
}
