package ring_test

import (
	"errors"
	"math/big"
	"slices"
	"testing"

	"bspregion/api"
	"bspregion/point"
	"bspregion/rational"
)

const far = "10000000000000000000000000000000000000000"

// number is the rational number of a text.
func number(s string) api.Rat {
	a, err := rational.Parse(s)
	if err != nil {
		panic(s)
	}
	return a
}

// ringOf is the ring with the vertices of texts.
func ringOf(texts ...string) api.Ring {
	var r api.Ring
	for _, s := range texts {
		p, err := point.Parse(s)
		if err != nil {
			panic(s)
		}
		r = append(r, p)
	}
	return r
}

// bigOf is a as a number of package big.
func bigOf(a api.Rat) *big.Rat {
	b, ok := new(big.Rat).SetString(rational.Format(a))
	if !ok {
		panic(rational.Format(a))
	}
	return b
}

// sameRat reports whether all digits of a and b are the same.
func sameRat(a, b api.Rat) bool {
	return a.Num.Neg == b.Num.Neg && slices.Equal(a.Num.Abs, b.Num.Abs) && slices.Equal(a.Den, b.Den)
}

// samePoint reports whether all digits of p and q are the same.
func samePoint(p, q api.Point) bool {
	return sameRat(p.X, q.X) && sameRat(p.Y, q.Y)
}

// sameRing reports whether r and s are the same in all digits.
func sameRing(r, s api.Ring) bool {
	return slices.EqualFunc(r, s, samePoint)
}

// show is r as a short text.
func show(r api.Ring) string {
	text := ""
	for _, p := range r[:min(len(r), 20)] {
		text += " " + point.Format(p)
	}
	return text
}

// checkRing demands the vertices of want, in all digits, and no error.
func checkRing(t *testing.T, name string, got api.Ring, err error, want api.Ring) {
	t.Helper()
	if err != nil || !sameRing(got, want) {
		t.Fatalf("%s:%s and %v, not%s", name, show(got), err, show(want))
	}
}

// checkRat demands the number want, in all digits, and no error.
func checkRat(t *testing.T, name string, r api.Ring, got api.Rat, err error, want api.Rat) {
	t.Helper()
	if err != nil || !sameRat(got, want) {
		t.Fatalf("%s of%s: %s and %v, not %s", name, show(r), rational.Format(got), err, rational.Format(want))
	}
}

// checkIs demands the value want and no error.
func checkIs[T comparable](t *testing.T, name string, r api.Ring, got T, err error, want T) {
	t.Helper()
	if err != nil || got != want {
		t.Fatalf("%s of%s: %v and %v, not %v", name, show(r), got, err, want)
	}
}

// checkTurns demands the numbers of want and no error.
func checkTurns(t *testing.T, r api.Ring, got []int, err error, want []int) {
	t.Helper()
	if err != nil || !slices.Equal(got, want) {
		t.Fatalf("Turns of%s: %v and %v, not %v", show(r), got, err, want)
	}
}

// checkKind demands an error of this kind and of no other one, or none if want is nil.
func checkKind(t *testing.T, name string, r api.Ring, err, want error) {
	t.Helper()
	if (err == nil) != (want == nil) {
		t.Fatalf("%s of%s: %v, not %v", name, show(r), err, want)
	}
	for _, kind := range []error{
		api.ErrInvalid, api.ErrSyntax, api.ErrRing, api.ErrName, api.ErrTwice, api.ErrBudget, api.ErrUnbounded, api.ErrEmpty, api.ErrSingular, api.ErrLimit, api.ErrRange,
	} {
		if got := errors.Is(err, kind); got != errors.Is(want, kind) {
			t.Fatalf("%s of%s: %v is %v: %v", name, show(r), err, kind, got)
		}
	}
}
