package point_test

import (
	"errors"
	"strings"
	"testing"

	"bspregion/api"
	"bspregion/point"
)

// P4.5: Format
func TestFormat(t *testing.T) {
	for _, c := range []struct {
		p    api.Point
		want string
	}{
		{api.Point{}, "(0,0)"},
		{at("1/2", "-3"), "(1/2,-3)"},
		{at("-3", "1/2"), "(-3,1/2)"},
		{api.Point{X: raw(4, 6), Y: raw(-7, 0)}, "(2/3,0)"},
		{api.Point{X: raw(0, 6), Y: raw(-6, 3)}, "(0,-2)"},
		{at("18446744073709551616", "-1/18446744073709551616"), "(18446744073709551616,-1/18446744073709551616)"},
	} {
		if got := point.Format(c.p); got != c.want {
			t.Errorf("%v: %q", c.p, got)
		}
	}
	for _, p := range samples() {
		v := toPair(p)
		if got := point.Format(p); got != "("+v.x.RatString()+","+v.y.RatString()+")" {
			t.Errorf("%v: %q", p, got)
		}
	}
}

// P4.5: Parse
func TestParse(t *testing.T) {
	most := strings.Repeat("9", api.MaxDigits)
	for _, c := range []struct{ x, y string }{
		{"0", "0"}, {"-0", "00"}, {"1", "-2"}, {"1/2", "-3"}, {"4/6", "-4/6"}, {"007", "-0/5"},
		{most, "-1/" + most}, {"-" + most + "/" + most, "0"},
	} {
		s := "(" + c.x + "," + c.y + ")"
		got, err := point.Parse(s)
		if err != nil {
			t.Fatalf("%.20q of %d bytes: %v", s, len(s), err)
		}
		check(t, s, got, toPair(at(c.x, c.y)))
	}
}

// P4.5: Parse reads what Format returns.
func TestParseInvertsFormat(t *testing.T) {
	for _, p := range samples() {
		got, err := point.Parse(point.Format(p))
		if err != nil {
			t.Fatal(p, err)
		}
		check(t, "Parse of Format", got, toPair(p))
	}
}

// checkKind demands that Parse returns the zero value and an error of this kind only.
func checkKind(t *testing.T, s string, want error) {
	t.Helper()
	p, err := point.Parse(s)
	for _, a := range []api.Rat{p.X, p.Y} {
		if a.Num.Neg || len(a.Num.Abs)+len(a.Den) != 0 {
			t.Errorf("%.20q of %d bytes: %v, not the zero value", s, len(s), p)
		}
	}
	for _, kind := range []error{api.ErrInvalid, api.ErrSyntax, api.ErrLimit, api.ErrRange} {
		if got := errors.Is(err, kind); got != (kind == want) {
			t.Errorf("%.20q of %d bytes: %v is %v: %v", s, len(s), err, kind, got)
		}
	}
}

// P4.5: texts of another form
func TestParseForm(t *testing.T) {
	long := strings.Repeat("1", api.MaxDigits+1)
	for _, s := range []string{
		"", "(", ")", ",", "()", "(,", ",)", ")(", "1", "1,2", "(1,2", "1,2)", "(1)", "(1 2)", "(1;2)", "(1,2,3)", "(1,,2)",
		"((1,2)", "(1,2))", "((1,2))", "[1,2]", ")1,2(", " (1,2)", "(1,2) ", "( 1,2)", "(1 ,2)", "(1, 2)", "(1,2 )", "(1,2)\n",
		"(1,2)x", "x(1,2)", "(1,2)(3,4)", "\xff(1,2)", "(1,2)\x00", long, "(" + long + ")", "(" + long + "," + long, "(" + long + ",1/0,)",
	} {
		checkKind(t, s, api.ErrSyntax)
	}
}

// P4.5: numbers that have none of the forms, whatever the other one is
func TestParseNumbers(t *testing.T) {
	long := strings.Repeat("1", api.MaxDigits+1)
	for _, bad := range []string{"", "-", "+1", "1/", "/1", "1/-2", "1//2", "1.5", "x", "1x", "--1", "\xff", "(1", "1)", long + "x", long + "/", "x/0"} {
		for _, other := range []string{"1", "-1/2", "x", "", long, "1/0", long + "/0"} {
			checkKind(t, "("+bad+","+other+")", api.ErrSyntax)
			checkKind(t, "("+other+","+bad+")", api.ErrSyntax)
		}
	}
}

// P4.5: the error of the x coordinate goes before that of the y coordinate.
func TestParseLimitAndRange(t *testing.T) {
	long := strings.Repeat("1", api.MaxDigits+1)
	limit := []string{long, "-" + long, "1/" + long, long + "/0", strings.Repeat("0", api.MaxDigits+1)}
	for _, tooLong := range limit {
		for _, other := range []string{"1", "-1/2", long, "1/0", "1/" + long} {
			checkKind(t, "("+tooLong+","+other+")", api.ErrLimit)
		}
		checkKind(t, "(1,"+tooLong+")", api.ErrLimit)
	}
	for _, zero := range []string{"1/0", "-1/0", "0/0", "7/000"} {
		for _, other := range append(limit, "1", "-1/2", "1/0") {
			checkKind(t, "("+zero+","+other+")", api.ErrRange)
		}
		checkKind(t, "(1,"+zero+")", api.ErrRange)
	}
}
