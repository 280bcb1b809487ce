package rational_test

import (
	"math/big"
	"testing"

	"bspregion/api"
	"bspregion/rational"
)

// P3.2: Neg
func TestNeg(t *testing.T) {
	for _, a := range samples() {
		check(t, "Neg", rational.Neg(a), new(big.Rat).Neg(toBig(a)))
	}
	check(t, "Neg of the zero value", rational.Neg(api.Rat{}), new(big.Rat))
	check(t, "Neg of 7/0", rational.Neg(small(7, 0)), new(big.Rat))
	check(t, "Neg of 4/6", rational.Neg(small(4, 6)), big.NewRat(-2, 3))
}

// checkSums compares Add, Sub, Mul and Middle with the results of math/big.
func checkSums(t *testing.T, a, b api.Rat) {
	t.Helper()
	x, y := toBig(a), toBig(b)
	total := new(big.Rat).Add(x, y)
	check(t, "Add", rational.Add(a, b), total)
	check(t, "Sub", rational.Sub(a, b), new(big.Rat).Sub(x, y))
	check(t, "Mul", rational.Mul(a, b), new(big.Rat).Mul(x, y))
	check(t, "Middle", rational.Middle(a, b), total.Mul(total, big.NewRat(1, 2)))
}

// checkDiv compares Div with the result of math/big; the quotient by 0 is 0, in normal form, and false.
func checkDiv(t *testing.T, a, b api.Rat) {
	t.Helper()
	x, y := toBig(a), toBig(b)
	quotient, ok := rational.Div(a, b)
	if ok != (y.Sign() != 0) {
		t.Fatal(a, b, ok)
	}
	if !ok {
		check(t, "Div by 0", quotient, new(big.Rat))
		return
	}
	check(t, "Div", quotient, new(big.Rat).Quo(x, y))
}

// P3.2: Add, Sub, Mul, Middle and Div
func TestArithmetic(t *testing.T) {
	test := func(a, b api.Rat) {
		checkSums(t, a, b)
		checkDiv(t, a, b)
	}
	pairs(test)
	smallPairs(test)
}

// P3.2: results in lowest terms, and arguments that stand for 0
func TestArithmeticExamples(t *testing.T) {
	for _, c := range []struct {
		name string
		got  api.Rat
		want *big.Rat
	}{
		{"1/6 + 1/3", rational.Add(small(1, 6), small(1, 3)), big.NewRat(1, 2)},
		{"1/2 + 1/2", rational.Add(small(1, 2), small(1, 2)), big.NewRat(1, 1)},
		{"1/2 - 1/2", rational.Sub(small(1, 2), small(2, 4)), new(big.Rat)},
		{"-7/0 + 2/4", rational.Add(small(-7, 0), small(2, 4)), big.NewRat(1, 2)},
		{"2/4 - 7/0", rational.Sub(small(2, 4), small(7, 0)), big.NewRat(1, 2)},
		{"-2/3 * -3/2", rational.Mul(small(-2, 3), small(-3, 2)), big.NewRat(1, 1)},
		{"-2/3 * 7/0", rational.Mul(small(-2, 3), small(7, 0)), new(big.Rat)},
		{"the middle of 1/3 and 2/3", rational.Middle(small(1, 3), small(2, 3)), big.NewRat(1, 2)},
		{"the middle of 0 and 1", rational.Middle(api.Rat{}, small(1, 1)), big.NewRat(1, 2)},
		{"the middle of -1 and 1", rational.Middle(small(-1, 1), small(1, 1)), new(big.Rat)},
	} {
		check(t, c.name, c.got, c.want)
	}
}

// P3.2: Div by fractions that stand for 0, and of them
func TestDivZero(t *testing.T) {
	for _, zero := range []api.Rat{{}, small(7, 0), small(0, 7), small(-7, 0), {Num: api.Int{Neg: true, Abs: api.Nat{0}}, Den: api.Nat{3}}} {
		checkDiv(t, small(2, 3), zero)
		checkDiv(t, zero, zero)
		checkDiv(t, zero, small(-2, 3))
	}
}

// Consequences: the laws of a field, for numbers whose digits are all the same if they are equal
func TestField(t *testing.T) {
	smallPairs(func(a, b api.Rat) {
		c := rational.Sub(a, rational.FromInt(3))
		left := rational.Mul(rational.Add(a, b), c)
		check(t, "distributivity", rational.Add(rational.Mul(a, c), rational.Mul(b, c)), toBig(left))
		if quotient, ok := rational.Div(a, b); ok {
			check(t, "a / b * b", rational.Mul(quotient, b), toBig(a))
		}
	})
}

// floor is the greatest integer that is at most x.
func floor(x *big.Rat) *big.Int {
	// Euclid's division rounds down, as denominators are positive.
	return new(big.Int).Div(x.Num(), x.Denom())
}

// P3.3: Floor and Ceil
func TestFloorAndCeil(t *testing.T) {
	test := func(a, b api.Rat) {
		x := toBig(a)
		up := floor(new(big.Rat).Neg(x))
		checkInt(t, "Floor", rational.Floor(a), floor(x))
		checkInt(t, "Ceil", rational.Ceil(a), up.Neg(up))
	}
	for _, a := range samples() {
		test(a, a)
	}
	smallPairs(test)
}

// P3.3: Floor and Ceil of both signs, of integers and of fractions that stand for 0
func TestFloorAndCeilExamples(t *testing.T) {
	for _, c := range []struct {
		a           api.Rat
		floor, ceil int64
	}{
		{small(-1, 2), -1, 0},
		{small(1, 2), 0, 1},
		{small(7, 2), 3, 4},
		{small(-7, 2), -4, -3},
		{small(6, 2), 3, 3},
		{small(-6, 2), -3, -3},
		{small(0, 2), 0, 0},
		{small(7, 0), 0, 0},
		{small(-7, 0), 0, 0},
		{api.Rat{}, 0, 0},
	} {
		checkInt(t, "Floor", rational.Floor(c.a), big.NewInt(c.floor))
		checkInt(t, "Ceil", rational.Ceil(c.a), big.NewInt(c.ceil))
	}
}
