package line_test

import (
	"math/big"
	"testing"

	"bspregion/api"
	"bspregion/line"
)

// P5.1: Valid
func TestValid(t *testing.T) {
	for _, l := range validLines() {
		if !line.Valid(l) {
			t.Error(l, "is valid")
		}
	}
	for _, l := range invalidLines() {
		if line.Valid(l) {
			t.Error(l, "is not valid")
		}
	}
	empty := api.Line{A: whole("1"), B: api.Int{Abs: api.Nat{}}, C: api.Int{Abs: api.Nat{}}}
	if !line.Valid(empty) {
		t.Error("an empty slice of digits is equivalent to a nil slice")
	}
}

// P5.1: New
func TestNew(t *testing.T) {
	for _, a := range numbers() {
		for _, b := range numbers() {
			for _, c := range numbers() {
				checkNew(t, a, b, c)
			}
		}
	}
}

// checkNew demands that New returns the coefficients divided by their greatest common divisor.
func checkNew(t *testing.T, a, b, c api.Int) {
	t.Helper()
	got, ok := line.New(a, b, c)
	want := form{toBig(a), toBig(b), toBig(c)}
	if want[0].Sign() == 0 && want[1].Sign() == 0 {
		checkZero(t, "New", got)
		if ok {
			t.Fatal(want, "is no line")
		}
		return
	}
	divisor := want.divisor()
	for i, n := range want {
		want[i] = new(big.Int).Quo(n, divisor)
	}
	checkLine(t, "New", got, want)
	if !ok || !line.Valid(got) {
		t.Fatal(want, ok)
	}
}

// P5.1: New by hand, where arguments need not be in normal form
func TestNewExamples(t *testing.T) {
	for _, c := range []struct {
		a, b, c api.Int
		want    api.Line
	}{
		{whole("2"), whole("-4"), whole("6"), ln("1", "-2", "3")},
		{whole("-2"), whole("-4"), whole("6"), ln("-1", "-2", "3")},
		{whole("0"), whole("-5"), whole("0"), ln("0", "-1", "0")},
		{whole("7"), whole("0"), whole("0"), ln("1", "0", "0")},
		{whole("6"), whole("10"), whole("15"), ln("6", "10", "15")},
		{raw(4), raw(0), raw(-6), ln("2", "0", "-3")},
		{api.Int{Neg: true}, raw(-3), api.Int{}, ln("0", "-1", "0")},
		{whole(far), whole(far), whole(far), ln("1", "1", "1")},
		{whole(far), whole(far), whole(farther), ln(far, far, farther)},
	} {
		got, ok := line.New(c.a, c.b, c.c)
		checkLine(t, "New", got, toForm(c.want))
		if !ok {
			t.Error(c.want, "is a line")
		}
	}
}

// P5.1: Through
func TestThrough(t *testing.T) {
	pointPairs(func(p, q api.Point) {
		u, v := toPair(p), toPair(q)
		got, ok := line.Through(p, q)
		if u.is(v) {
			checkZero(t, "Through", got)
			if ok {
				t.Fatal(p, q, "are the same point")
			}
			return
		}
		f, step := toForm(got), v.sub(u)
		if !ok || !line.Valid(got) || f.value(u).Sign() != 0 || f.value(v).Sign() != 0 {
			t.Fatal(p, q, got, ok)
		}
		if f.direction().cross(step).Sign() != 0 || f.direction().dot(step).Sign() <= 0 {
			t.Fatal(p, q, got, "has another direction")
		}
	})
}

// P5.1: Through by hand
func TestThroughExamples(t *testing.T) {
	for _, c := range []struct {
		p, q api.Point
		want api.Line
	}{
		{at("0", "0"), at("2", "0"), ln("0", "1", "0")},
		{at("2", "0"), at("0", "0"), ln("0", "-1", "0")},
		{at("0", "0"), at("0", "3"), ln("-1", "0", "0")},
		{at("0", "3"), at("0", "0"), ln("1", "0", "0")},
		{at("2", "0"), at("0", "2"), ln("-1", "-1", "2")},
		{at("1/2", "0"), at("0", "1/3"), ln("-2", "-3", "1")},
		{at("1/2", "1/3"), at("1/2", "4/3"), ln("-2", "0", "1")},
		{at("1", "1"), at("3", "5"), ln("-2", "1", "1")},
		{api.Point{}, api.Point{X: rawRat(4, 2), Y: rawRat(7, 0)}, ln("0", "1", "0")},
		{at("0", "0"), at(far, farther), ln("-"+farther, far, "0")},
	} {
		got, ok := line.Through(c.p, c.q)
		checkLine(t, "Through", got, toForm(c.want))
		if !ok {
			t.Error(c.p, c.q, "are different points")
		}
	}
}

// P5.1: Through of one point in two forms
func TestThroughOnePoint(t *testing.T) {
	for _, c := range [][2]api.Point{
		{{}, {}},
		{{}, at("0", "0")},
		{at("1/2", "-3"), {X: rawRat(2, 4), Y: rawRat(-6, 2)}},
		{{X: rawRat(7, 0), Y: rawRat(-7, 0)}, {X: rawRat(0, 3), Y: rawRat(0, 0)}},
	} {
		got, ok := line.Through(c[0], c[1])
		checkZero(t, "Through", got)
		if ok {
			t.Error(c, "are the same point")
		}
	}
}

// P5.1: Reverse
func TestReverse(t *testing.T) {
	for _, l := range validLines() {
		got := line.Reverse(l)
		checkLine(t, "Reverse", got, toForm(l).negative())
		checkLine(t, "Reverse of Reverse", line.Reverse(got), toForm(l))
		if !line.Valid(got) {
			t.Fatal(l, got)
		}
	}
	checkLine(t, "Reverse", line.Reverse(ln("0", "-3", "1")), toForm(ln("0", "3", "-1")))
	checkLine(t, "Reverse", line.Reverse(ln("1", "0", "0")), toForm(ln("-1", "0", "0")))
}
