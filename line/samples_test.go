package line_test

import (
	"math/big"

	"bspregion/api"
)

const (
	far     = "10000000000000000000000000000000000000000"
	farther = "10000000000000000000000000000000000000001"
)

// numbers are integers of different lengths, some not in normal form.
func numbers() []api.Int {
	return []api.Int{
		{}, {Neg: true}, raw(0), whole("1"), whole("-1"), whole("2"), raw(-6), raw(4), whole("-9"),
		whole("4294967296"), whole("-18446744073709551612"), whole(far), {Neg: true, Abs: api.Nat{0, 0, 6, 0}},
	}
}

// coordinates are numbers of different lengths, some not in normal form or with the denominator 0.
func coordinates() []api.Rat {
	return []api.Rat{
		{}, rawRat(7, 0), rawRat(0, 3), number("1"), rawRat(-1, 1), rawRat(2, 4), number("-3/2"), number("7/3"),
		number("18446744073709551617/4294967296"), {Num: api.Int{Neg: true, Abs: api.Nat{0, 0, 6}}, Den: api.Nat{0, 4, 0}}, number("-1/" + far),
	}
}

// points have all pairs of coordinates.
func points() []api.Point {
	var list []api.Point
	for _, x := range coordinates() {
		for _, y := range coordinates() {
			list = append(list, api.Point{X: x, Y: y})
		}
	}
	return list
}

// validLines are valid lines of all directions, made without the package.
func validLines() []api.Line {
	list := []api.Line{
		ln(far, farther, "7"), ln("-"+farther, far, "0"), ln("6", "10", "15"), ln("-6", "-10", far+"1"), ln("0", "3", "-"+far),
		ln("18446744073709551616", "4294967296", "-1"), ln("12", "0", "-35"), ln("1", "-18446744073709551617", "4294967295"),
	}
	small := []string{"0", "1", "-1", "2", "-3"}
	for _, a := range small {
		for _, b := range small {
			for _, c := range small {
				l := ln(a, b, c)
				if (a != "0" || b != "0") && toForm(l).divisor().Cmp(big.NewInt(1)) == 0 {
					list = append(list, l)
				}
			}
		}
	}
	return list
}

// invalidLines are not valid, each for one reason.
func invalidLines() []api.Line {
	return []api.Line{
		{},
		ln("0", "0", "1"),
		ln("0", "0", "-1"),
		ln("2", "0", "0"),
		ln("0", "-3", "0"),
		ln("2", "0", "4"),
		ln("0", "-3", "6"),
		ln("-2", "4", "0"),
		ln("6", "-9", "15"),
		ln("340282366920938463463374607431768211456", "18446744073709551616", "4294967296"),
		{A: raw(1), B: whole("2"), C: whole("3")},
		{A: whole("1"), B: raw(-2), C: whole("3")},
		{A: whole("1"), B: whole("2"), C: raw(3)},
		{A: raw(0), B: whole("1"), C: whole("3")},
		{A: whole("1"), B: raw(0), C: whole("3")},
		{A: whole("1"), B: whole("2"), C: raw(0)},
		{A: api.Int{Neg: true}, B: whole("1"), C: whole("3")},
		{A: whole("1"), B: api.Int{Neg: true}, C: whole("3")},
		{A: whole("1"), B: whole("2"), C: api.Int{Neg: true}},
	}
}

// linePairs calls test with all pairs of valid lines.
func linePairs(test func(l, m api.Line)) {
	for _, l := range validLines() {
		for _, m := range validLines() {
			test(l, m)
		}
	}
}

// linePoints calls test with valid lines and points, so that each line occurs with points of all kinds.
func linePoints(test func(l api.Line, p api.Point)) {
	list := points()
	for i, l := range validLines() {
		for j := i % 5; j < len(list); j += 5 {
			test(l, list[j])
		}
	}
}

// pointPairs calls test with many pairs of points.
func pointPairs(test func(p, q api.Point)) {
	list := points()
	for i, p := range list {
		for j := i % 3; j < len(list); j += 3 {
			test(p, list[j])
		}
	}
}
