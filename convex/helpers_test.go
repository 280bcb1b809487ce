package convex_test

import (
	"errors"
	"slices"
	"testing"

	"bspregion/api"
	"bspregion/integer"
	"bspregion/line"
	"bspregion/point"
	"bspregion/rational"
)

const far = "10000000000000000000000000000000000000000"

// integerOf is the integer of a text.
func integerOf(s string) api.Int {
	a, err := integer.Parse(s)
	if err != nil {
		panic(s)
	}
	return a
}

// number is the rational number of a text.
func number(s string) api.Rat {
	a, err := rational.Parse(s)
	if err != nil {
		panic(s)
	}
	return a
}

// at is the point of a text.
func at(s string) api.Point {
	p, err := point.Parse(s)
	if err != nil {
		panic(s)
	}
	return p
}

// points are the points of texts.
func points(texts ...string) []api.Point {
	var list []api.Point
	for _, s := range texts {
		list = append(list, at(s))
	}
	return list
}

// raw is num / den, as it is written.
func raw(num int32, den ...uint32) api.Rat {
	if num < 0 {
		return api.Rat{Num: api.Int{Neg: true, Abs: api.Nat{-uint32(num)}}, Den: den}
	}
	return api.Rat{Num: api.Int{Abs: api.Nat{uint32(num)}}, Den: den}
}

// ln is the line with the coefficients of three texts, as they are.
func ln(a, b, c string) api.Line {
	return api.Line{A: integerOf(a), B: integerOf(b), C: integerOf(c)}
}

// through is the line from one point to the other one.
func through(p, q api.Point) api.Line {
	l, ok := line.Through(p, q)
	if !ok {
		panic(point.Format(p))
	}
	return l
}

// cell is the cell with these sides.
func cell(sides ...api.Line) api.Cell {
	return api.Cell{Sides: sides}
}

// sameInt reports whether all digits of a and b are the same.
func sameInt(a, b api.Int) bool {
	return a.Neg == b.Neg && slices.Equal(a.Abs, b.Abs)
}

// sameRat reports whether all digits of a and b are the same.
func sameRat(a, b api.Rat) bool {
	return sameInt(a.Num, b.Num) && slices.Equal(a.Den, b.Den)
}

// samePoint reports whether all digits of p and q are the same.
func samePoint(p, q api.Point) bool {
	return sameRat(p.X, q.X) && sameRat(p.Y, q.Y)
}

// sameLine reports whether all digits of l and m are the same.
func sameLine(l, m api.Line) bool {
	return sameInt(l.A, m.A) && sameInt(l.B, m.B) && sameInt(l.C, m.C)
}

// sameCell reports whether c and d have the same sides in the same order.
func sameCell(c, d api.Cell) bool {
	return slices.EqualFunc(c.Sides, d.Sides, sameLine)
}

// show is a short text of the sides of c.
func show(c api.Cell) string {
	text := ""
	for _, l := range c.Sides {
		text += " [" + integer.Format(l.A) + " " + integer.Format(l.B) + " " + integer.Format(l.C) + "]"
	}
	return text
}

// showPoints is a short text of the points.
func showPoints(list []api.Point) string {
	text := ""
	for _, p := range list {
		text += " " + point.Format(p)
	}
	return text
}

// checkCell demands the sides of want, in all digits and in this order, and no error.
func checkCell(t *testing.T, name string, got api.Cell, err error, want api.Cell) {
	t.Helper()
	if err != nil || !sameCell(got, want) {
		t.Fatalf("%s:%s and %v, not%s", name, show(got), err, show(want))
	}
}

// checkPoints demands the points of want, in all digits and in this order, and no error.
func checkPoints(t *testing.T, name string, got []api.Point, err error, want []api.Point) {
	t.Helper()
	if err != nil || !slices.EqualFunc(got, want, samePoint) {
		t.Fatalf("%s:%s and %v, not%s", name, showPoints(got), err, showPoints(want))
	}
}

// checkRat demands the number want, in all digits, and no error.
func checkRat(t *testing.T, name string, got api.Rat, err error, want api.Rat) {
	t.Helper()
	if err != nil || !sameRat(got, want) {
		t.Fatalf("%s: %s and %v, not %s", name, rational.Format(got), err, rational.Format(want))
	}
}

// checkIs demands the value want and no error.
func checkIs[T comparable](t *testing.T, name string, c api.Cell, got T, err error, want T) {
	t.Helper()
	if err != nil || got != want {
		t.Fatalf("%s of%s: %v and %v, not %v", name, show(c), got, err, want)
	}
}

// checkKind demands an error of this kind and of no other one.
func checkKind(t *testing.T, name string, err, want error) {
	t.Helper()
	for _, kind := range []error{
		api.ErrInvalid, api.ErrSyntax, api.ErrRing, api.ErrName, api.ErrTwice, api.ErrBudget, api.ErrUnbounded, api.ErrEmpty, api.ErrSingular, api.ErrLimit, api.ErrRange,
	} {
		if got := errors.Is(err, kind); got != errors.Is(want, kind) {
			t.Fatalf("%s: %v is %v: %v", name, err, kind, got)
		}
	}
}
