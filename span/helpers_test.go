package span_test

import (
	"errors"
	"math/big"
	"slices"
	"testing"

	"bspregion/api"
	"bspregion/rational"
)

// number is the rational number of a text.
func number(s string) api.Rat {
	a, err := rational.Parse(s)
	if err != nil {
		panic(s)
	}
	return a
}

// raw is num / den, as it is written.
func raw(num int32, den ...uint32) api.Rat {
	if num < 0 {
		return api.Rat{Num: api.Int{Neg: true, Abs: api.Nat{-uint32(num)}}, Den: den}
	}
	return api.Rat{Num: api.Int{Abs: api.Nat{uint32(num)}}, Den: den}
}

// segment is the span between the numbers of two texts.
func segment(lo, hi string) api.Span {
	return api.Span{Lo: number(lo), Hi: number(hi)}
}

// upTo is the span without a lower end up to the number of a text.
func upTo(hi string) api.Span {
	return api.Span{NoLo: true, Hi: number(hi)}
}

// from is the span without an upper end from the number of a text on.
func from(lo string) api.Span {
	return api.Span{Lo: number(lo), NoHi: true}
}

// whole is the span without ends.
func whole() api.Span {
	return api.Span{NoLo: true, NoHi: true}
}

// toBig converts a without the packages of the project.
func toBig(a api.Rat) *big.Rat {
	digits := func(list api.Nat) *big.Int {
		n := new(big.Int)
		for i := len(list) - 1; i >= 0; i-- {
			n.Lsh(n, 32)
			n.Or(n, new(big.Int).SetUint64(uint64(list[i])))
		}
		return n
	}
	num, den := digits(a.Num.Abs), digits(a.Den)
	if den.Sign() == 0 {
		return new(big.Rat)
	}
	if a.Num.Neg {
		num.Neg(num)
	}
	return new(big.Rat).SetFrac(num, den)
}

// grid are the ends of the spans of the tests, ascending.
func grid() []api.Rat {
	return []api.Rat{
		number("-18446744073709551617/4294967296"), number("-7/3"), number("0"), number("1/10000000000000000000000"), number("10000000000000000000000"),
	}
}

const (
	gridSize = 5
	gaps     = gridSize + 1 // between the numbers of the grid, below and above them
	masks    = 1 << gaps
)

// between is the span from the beginning of the gap first to the end of the gap last.
func between(first, last int) api.Span {
	list, s := grid(), whole()
	if first > 0 {
		s.Lo, s.NoLo = list[first-1], false
	}
	if last < gridSize {
		s.Hi, s.NoHi = list[last], false
	}
	return s
}

// has reports whether the gap i belongs to a mask.
func has(mask uint, i int) bool {
	return i >= 0 && i < gaps && mask>>i&1 == 1
}

// setOf is the set that consists of the gaps of a mask.
func setOf(mask uint) []api.Span {
	var set []api.Span
	first := 0
	for i := range gaps {
		if has(mask, i) && !has(mask, i-1) {
			first = i
		}
		if has(mask, i) && !has(mask, i+1) {
			set = append(set, between(first, i))
		}
	}
	return set
}

// sameRat reports whether all digits of a and b are the same.
func sameRat(a, b api.Rat) bool {
	return a.Num.Neg == b.Num.Neg && slices.Equal(a.Num.Abs, b.Num.Abs) && slices.Equal(a.Den, b.Den)
}

// sameSpan reports whether s and r are the same in all digits.
func sameSpan(s, r api.Span) bool {
	return s.NoLo == r.NoLo && s.NoHi == r.NoHi && sameRat(s.Lo, r.Lo) && sameRat(s.Hi, r.Hi)
}

// checkSet demands the spans of want, in all digits, and no error.
func checkSet(t *testing.T, name string, got []api.Span, err error, want ...api.Span) {
	t.Helper()
	if err != nil || !slices.EqualFunc(got, want, sameSpan) {
		t.Fatalf("%s: %v and %v, not %v", name, got, err, want)
	}
}

// checkNumber demands the number want, in normal form, and no error.
func checkNumber(t *testing.T, name string, got api.Rat, err error, want *big.Rat) {
	t.Helper()
	if err != nil || toBig(got).Cmp(want) != 0 || !rational.Normal(got) {
		t.Fatalf("%s: %v and %v, not %v", name, got, err, want)
	}
}

// checkKind demands an error of this kind only.
func checkKind(t *testing.T, name string, err, want error) {
	t.Helper()
	for _, kind := range []error{
		api.ErrInvalid, api.ErrSyntax, api.ErrRing, api.ErrName, api.ErrTwice, api.ErrBudget, api.ErrUnbounded, api.ErrEmpty, api.ErrSingular, api.ErrLimit, api.ErrRange,
	} {
		if got := errors.Is(err, kind); got != (kind == want) {
			t.Errorf("%s: %v is %v: %v", name, err, kind, got)
		}
	}
}

// ladder are n segments of this length: the first one begins at first, and each other one step after the one before it.
func ladder(n int, first, step, length int64) []api.Span {
	var list []api.Span
	for i := range int64(n) {
		lo := first + i*step
		list = append(list, api.Span{Lo: rational.FromInt(lo), Hi: rational.FromInt(lo + length)})
	}
	return list
}
