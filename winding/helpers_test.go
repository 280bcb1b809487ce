package winding_test

import (
	"errors"
	"slices"
	"testing"

	"bspregion/api"
	"bspregion/integer"
	"bspregion/point"
	"bspregion/rational"
)

const far = "10000000000000000000000000000000000000000"

// number is the rational number of a text.
func number(s string) api.Rat {
	a, err := rational.Parse(s)
	if err != nil {
		panic(s)
	}
	return a
}

// at is the point of a text.
func at(s string) api.Point {
	p, err := point.Parse(s)
	if err != nil {
		panic(s)
	}
	return p
}

// ringOf is the ring with the vertices of texts.
func ringOf(texts ...string) api.Ring {
	var r api.Ring
	for _, s := range texts {
		r = append(r, at(s))
	}
	return r
}

// show is the rings as a short text.
func show(rings []api.Ring) string {
	text := ""
	for _, r := range rings[:min(len(rings), 10)] {
		text += " ["
		for _, p := range r[:min(len(r), 20)] {
			text += " " + point.Format(p)
		}
		text += " ]"
	}
	return text
}

// showLines is the coefficients of lines as text.
func showLines(list []api.Line) string {
	text := ""
	for _, l := range list {
		text += " " + integer.Format(l.A) + "," + integer.Format(l.B) + "," + integer.Format(l.C)
	}
	return text
}

// sameInt reports whether all digits of a and b are the same.
func sameInt(a, b api.Int) bool {
	return a.Neg == b.Neg && slices.Equal(a.Abs, b.Abs)
}

// sameLine reports whether all digits of l and m are the same.
func sameLine(l, m api.Line) bool {
	return sameInt(l.A, m.A) && sameInt(l.B, m.B) && sameInt(l.C, m.C)
}

// checkLines demands the lines of want, in all digits, and no error.
func checkLines(t *testing.T, rings []api.Ring, got []api.Line, err error, want []api.Line) {
	t.Helper()
	if err != nil || !slices.EqualFunc(got, want, sameLine) {
		t.Fatalf("Lines of%s:%s and %v, not%s", show(rings), showLines(got), err, showLines(want))
	}
}

// checkIs demands the value want and no error.
func checkIs[T comparable](t *testing.T, name string, rings []api.Ring, p api.Point, got T, err error, want T) {
	t.Helper()
	if err != nil || got != want {
		t.Fatalf("%s of%s at %s: %v and %v, not %v", name, show(rings), point.Format(p), got, err, want)
	}
}

// checkKind demands an error of this kind and of no other one.
func checkKind(t *testing.T, name string, rings []api.Ring, err, want error) {
	t.Helper()
	for _, kind := range []error{
		api.ErrInvalid, api.ErrSyntax, api.ErrRing, api.ErrName, api.ErrTwice, api.ErrBudget, api.ErrUnbounded, api.ErrEmpty, api.ErrSingular, api.ErrLimit, api.ErrRange,
	} {
		if got := errors.Is(err, kind); got != errors.Is(want, kind) {
			t.Fatalf("%s of%s: %v is %v: %v", name, show(rings), err, kind, got)
		}
	}
}
