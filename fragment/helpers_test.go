package fragment_test

import (
	"errors"
	"slices"
	"testing"

	"bspregion/api"
	"bspregion/integer"
	"bspregion/point"
	"bspregion/rational"
)

// integerOf is the integer of a text.
func integerOf(s string) api.Int {
	a, err := integer.Parse(s)
	if err != nil {
		panic(s)
	}
	return a
}

// number is the rational number of a text.
func number(s string) api.Rat {
	a, err := rational.Parse(s)
	if err != nil {
		panic(s)
	}
	return a
}

// at is the point of a text.
func at(s string) api.Point {
	p, err := point.Parse(s)
	if err != nil {
		panic(s)
	}
	return p
}

// raw is num / den, as it is written.
func raw(num int32, den ...uint32) api.Rat {
	if num < 0 {
		return api.Rat{Num: api.Int{Neg: true, Abs: api.Nat{-uint32(num)}}, Den: den}
	}
	return api.Rat{Num: api.Int{Abs: api.Nat{uint32(num)}}, Den: den}
}

// ln is the line with the coefficients of three texts, as they are.
func ln(a, b, c string) api.Line {
	return api.Line{A: integerOf(a), B: integerOf(b), C: integerOf(c)}
}

// segment is the span between the numbers of two texts.
func segment(lo, hi string) api.Span {
	return api.Span{Lo: number(lo), Hi: number(hi)}
}

// upTo is the span without a lower end up to the number of a text.
func upTo(hi string) api.Span {
	return api.Span{NoLo: true, Hi: number(hi)}
}

// from is the span without an upper end from the number of a text on.
func from(lo string) api.Span {
	return api.Span{Lo: number(lo), NoHi: true}
}

// whole is the span without ends.
func whole() api.Span {
	return api.Span{NoLo: true, NoHi: true}
}

// sameInt reports whether all digits of a and b are the same.
func sameInt(a, b api.Int) bool {
	return a.Neg == b.Neg && slices.Equal(a.Abs, b.Abs)
}

// sameRat reports whether all digits of a and b are the same.
func sameRat(a, b api.Rat) bool {
	return sameInt(a.Num, b.Num) && slices.Equal(a.Den, b.Den)
}

// samePoint reports whether all digits of p and q are the same.
func samePoint(p, q api.Point) bool {
	return sameRat(p.X, q.X) && sameRat(p.Y, q.Y)
}

// sameFragment reports whether f and g are the same in all digits.
func sameFragment(f, g api.Fragment) bool {
	return sameInt(f.Line.A, g.Line.A) && sameInt(f.Line.B, g.Line.B) && sameInt(f.Line.C, g.Line.C) &&
		f.Span.NoLo == g.Span.NoLo && f.Span.NoHi == g.Span.NoHi && sameRat(f.Span.Lo, g.Span.Lo) && sameRat(f.Span.Hi, g.Span.Hi)
}

// show is f as a short text.
func show(list ...api.Fragment) string {
	text := ""
	for _, f := range list {
		text += " [" + integer.Format(f.Line.A) + " " + integer.Format(f.Line.B) + " " + integer.Format(f.Line.C) + ":"
		if !f.Span.NoLo {
			text += " from " + rational.Format(f.Span.Lo)
		}
		if !f.Span.NoHi {
			text += " to " + rational.Format(f.Span.Hi)
		}
		text += "]"
	}
	return text
}

// checkList demands the fragments of want, in all digits, and no error.
func checkList(t *testing.T, name string, got []api.Fragment, err error, want ...api.Fragment) {
	t.Helper()
	if err != nil || !slices.EqualFunc(got, want, sameFragment) {
		t.Fatalf("%s:%s and %v, not%s", name, show(got...), err, show(want...))
	}
}

// checkFragment demands the fragment want, in all digits, and no error.
func checkFragment(t *testing.T, name string, got api.Fragment, err error, want api.Fragment) {
	t.Helper()
	checkList(t, name, []api.Fragment{got}, err, want)
}

// checkPoint demands the point want, in all digits, true and no error.
func checkPoint(t *testing.T, name string, got api.Point, ok bool, err error, want api.Point) {
	t.Helper()
	if !ok || err != nil || !samePoint(got, want) {
		t.Fatalf("%s: %v, %v and %v, not %s", name, got, ok, err, point.Format(want))
	}
}

// checkNoPoint demands the zero value, false and no error.
func checkNoPoint(t *testing.T, name string, got api.Point, ok bool, err error) {
	t.Helper()
	if ok || err != nil || !samePoint(got, api.Point{}) {
		t.Fatalf("%s: %v, %v and %v", name, got, ok, err)
	}
}

// checkNoFragment demands the zero value, false and no error.
func checkNoFragment(t *testing.T, name string, got api.Fragment, ok bool, err error) {
	t.Helper()
	if ok || err != nil || !sameFragment(got, api.Fragment{}) {
		t.Fatalf("%s:%s, %v and %v", name, show(got), ok, err)
	}
}

// checkInvalid demands an error of the kind ErrInvalid and of no other one.
func checkInvalid(t *testing.T, name string, err error) {
	t.Helper()
	for _, kind := range []error{
		api.ErrInvalid, api.ErrSyntax, api.ErrRing, api.ErrName, api.ErrTwice, api.ErrBudget, api.ErrUnbounded, api.ErrEmpty, api.ErrSingular, api.ErrLimit, api.ErrRange,
	} {
		if got := errors.Is(err, kind); got != (kind == api.ErrInvalid) {
			t.Fatalf("%s: %v is %v: %v", name, err, kind, got)
		}
	}
}
