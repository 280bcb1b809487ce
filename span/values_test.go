package span_test

import (
	"math/big"
	"testing"

	"bspregion/api"
	"bspregion/rational"
	"bspregion/span"
)

// probe is a number in the interior of the gap i.
func probe(i int) api.Rat {
	list := grid()
	switch i {
	case 0:
		return rational.Sub(list[0], number("1/7"))
	case gridSize:
		return rational.Add(list[gridSize-1], number("1/7"))
	}
	return rational.Add(list[i-1], rational.Mul(number("1/9"), rational.Sub(list[i], list[i-1])))
}

// checkClass demands this class of t, and no error.
func checkClass(t *testing.T, a []api.Span, n api.Rat, want int) {
	t.Helper()
	if got, err := span.Class(a, n); err != nil || got != want {
		t.Fatal(a, n, got, err, want)
	}
}

// P6.3: Class of all sets on the grid, in the gaps and at the numbers between them
func TestClass(t *testing.T) {
	for mask := range uint(masks) {
		a := setOf(mask)
		for i := range gaps {
			want := api.Outside
			if has(mask, i) {
				want = api.Inside
			}
			checkClass(t, a, probe(i), want)
		}
		for i, end := range grid() {
			want := api.Outside
			switch {
			case has(mask, i) && has(mask, i+1):
				want = api.Inside
			case has(mask, i) || has(mask, i+1):
				want = api.Boundary
			}
			checkClass(t, a, end, want)
		}
	}
}

// P6.3: Class of numbers that are not in normal form
func TestClassNorm(t *testing.T) {
	a := []api.Span{segment("-1/2", "0"), segment("1/2", "2")}
	for _, c := range []struct {
		n    api.Rat
		want int
	}{
		{raw(-2, 4), api.Boundary}, {raw(-4, 6), api.Outside}, {raw(-2, 6), api.Inside},
		{api.Rat{}, api.Boundary}, {raw(7, 0), api.Boundary}, {raw(-7), api.Boundary}, {raw(0, 3), api.Boundary},
		{raw(2, 8), api.Outside}, {raw(2, 4, 0), api.Boundary}, {raw(4, 4), api.Inside}, {raw(6, 3, 0), api.Boundary}, {raw(9, 3), api.Outside},
	} {
		checkClass(t, a, c.n, c.want)
	}
	checkClass(t, nil, api.Rat{}, api.Outside)
	checkClass(t, []api.Span{whole()}, raw(7, 0), api.Inside)
}

// P6.3: Length of all sets on the grid
func TestLength(t *testing.T) {
	for mask := range uint(masks) {
		got, err := span.Length(setOf(mask))
		if has(mask, 0) || has(mask, gridSize) {
			checkKind(t, "Length", err, api.ErrUnbounded)
			if !sameRat(got, api.Rat{}) {
				t.Error(setOf(mask), got)
			}
			continue
		}
		sum, list := new(big.Rat), grid()
		for i := 1; i < gridSize; i++ {
			if has(mask, i) {
				sum.Add(sum, new(big.Rat).Sub(toBig(list[i]), toBig(list[i-1])))
			}
		}
		checkNumber(t, "Length", got, err, sum)
	}
}

// P6.3: an end that does not exist, at each place of the set
func TestLengthUnbounded(t *testing.T) {
	middle := segment("0", "1")
	for _, a := range [][]api.Span{
		{whole()}, {upTo("-1")}, {from("2")}, {upTo("-1"), middle}, {middle, from("2")}, {upTo("-1"), middle, from("2")}, {upTo("-1"), from("2")},
	} {
		got, err := span.Length(a)
		checkKind(t, "Length", err, api.ErrUnbounded)
		if !sameRat(got, api.Rat{}) {
			t.Error(a, got)
		}
	}
}

// P6.3: Length of as many spans as are permitted, with different denominators
func TestLengthMost(t *testing.T) {
	var a []api.Span
	want := new(big.Rat)
	for i := range int64(api.MaxSpans) {
		length, _ := rational.New(rational.FromInt(1).Num, rational.FromInt(i%97+2).Num)
		a = append(a, api.Span{Lo: rational.FromInt(i), Hi: rational.Add(rational.FromInt(i), length)})
		want.Add(want, big.NewRat(1, i%97+2))
	}
	got, err := span.Length(a)
	checkNumber(t, "Length", got, err, want)
}

// Consequences: the length of a union plus that of the intersection is the sum of the lengths.
func TestLengthOfUnion(t *testing.T) {
	length := func(a []api.Span, err error) *big.Rat {
		n, lengthErr := span.Length(a)
		if err != nil || lengthErr != nil {
			t.Fatal(a, err, lengthErr)
		}
		return toBig(n)
	}
	const inner = masks / 4
	for code := range uint(inner * inner) {
		// The gaps at both sides are left out, so that all sets are bounded.
		a, b := setOf(code%inner*2), setOf(code/inner*2)
		union, intersection := length(span.Union(a, b)), length(span.Intersect(a, b))
		if sum := union.Add(union, intersection); sum.Cmp(new(big.Rat).Add(length(a, nil), length(b, nil))) != 0 {
			t.Fatal(a, b, sum)
		}
	}
}

// checkSample demands the number that the chapter names for s.
func checkSample(t *testing.T, s api.Span, got api.Rat) {
	t.Helper()
	want, one := new(big.Rat), big.NewRat(1, 1)
	switch {
	case !s.NoLo && !s.NoHi:
		want.Mul(want.Add(toBig(s.Lo), toBig(s.Hi)), big.NewRat(1, 2))
	case !s.NoLo:
		want.Add(toBig(s.Lo), one)
	case !s.NoHi:
		want.Sub(toBig(s.Hi), one)
	}
	checkNumber(t, "Samples", got, nil, want)
}

// P6.4: Samples of all sets on the grid
func TestSamples(t *testing.T) {
	for mask := range uint(masks) {
		a := setOf(mask)
		got, err := span.Samples(a)
		if err != nil || len(got) != len(a) {
			t.Fatal(a, got, err)
		}
		for i, s := range a {
			checkSample(t, s, got[i])
			checkClass(t, []api.Span{s}, got[i], api.Inside)
		}
	}
}

// P6.4: Samples by hand
func TestSamplesExamples(t *testing.T) {
	for _, c := range []struct {
		a    []api.Span
		want []string
	}{
		{nil, nil},
		{[]api.Span{whole()}, []string{"0"}},
		{[]api.Span{upTo("1/3"), segment("1", "2"), segment("3", "17/5"), from("7/2")}, []string{"-2/3", "3/2", "16/5", "9/2"}},
		{[]api.Span{upTo("1")}, []string{"0"}},
		{[]api.Span{from("-1")}, []string{"0"}},
		{[]api.Span{segment("-1", "1")}, []string{"0"}},
	} {
		got, err := span.Samples(c.a)
		if err != nil || len(got) != len(c.want) {
			t.Fatal(c.a, got, err)
		}
		for i, s := range c.want {
			if !sameRat(got[i], number(s)) {
				t.Error(c.a, got[i], s)
			}
		}
	}
}
