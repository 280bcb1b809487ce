package integer_test

import (
	"errors"
	"math/big"
	"strings"
	"testing"

	"bspregion/api"
	"bspregion/integer"
)

// P2.3: Parse of digits with and without a minus sign
func TestParse(t *testing.T) {
	for _, digits := range []string{
		"0", "7", "10", "007", "000", "4294967296", "18446744073709551616", "340282366920938463463374607431768211456",
		strings.Repeat("9", api.MaxDigits), strings.Repeat("0", api.MaxDigits-1) + "7",
	} {
		for _, s := range []string{digits, "-" + digits} {
			want, ok := new(big.Int).SetString(s, 10)
			a, err := integer.Parse(s)
			if !ok || err != nil {
				t.Fatalf("%.20q: %v %v", s, ok, err)
			}
			check(t, s, a, want)
		}
	}
	a, err := integer.Parse("-0")
	if err != nil {
		t.Error(err)
	}
	checkZero(t, "-0", a)
}

// P2.3: the errors of Parse
func TestParseErrors(t *testing.T) {
	long := strings.Repeat("1", api.MaxDigits+1)
	for _, c := range []struct {
		s    string
		kind error
	}{
		{"", api.ErrSyntax},
		{"-", api.ErrSyntax},
		{"--7", api.ErrSyntax},
		{"+7", api.ErrSyntax},
		{"-+7", api.ErrSyntax},
		{"7-", api.ErrSyntax},
		{"- 7", api.ErrSyntax},
		{" -7", api.ErrSyntax},
		{"-7 ", api.ErrSyntax},
		{"-7\n", api.ErrSyntax},
		{"1-2", api.ErrSyntax},
		{"-1/2", api.ErrSyntax},
		{"\u22127", api.ErrSyntax},
		{"-\x00", api.ErrSyntax},
		{"-7\xff", api.ErrSyntax},
		{long, api.ErrLimit},
		{"-" + long, api.ErrLimit},
		{"-" + strings.Repeat("0", api.MaxDigits+1), api.ErrLimit},
		{"--" + long, api.ErrSyntax},
		{"-" + long + "x", api.ErrSyntax},
	} {
		a, err := integer.Parse(c.s)
		if !errors.Is(err, c.kind) {
			t.Errorf("%.20q of %d bytes: %v", c.s, len(c.s), err)
		}
		checkZero(t, c.s, a)
	}
}

// P2.3: Format
func TestFormat(t *testing.T) {
	for _, c := range []struct {
		a    api.Int
		want string
	}{
		{api.Int{}, "0"},
		{api.Int{Neg: true}, "0"},
		{api.Int{Neg: true, Abs: api.Nat{0}}, "0"},
		{api.Int{Neg: true, Abs: api.Nat{0, 0}}, "0"},
		{api.Int{Abs: api.Nat{7, 0}}, "7"},
		{api.Int{Neg: true, Abs: api.Nat{7, 0}}, "-7"},
		{api.Int{Neg: true, Abs: api.Nat{0, 0, 1}}, "-18446744073709551616"},
	} {
		if got := integer.Format(c.a); got != c.want {
			t.Errorf("%v: %q", c.a, got)
		}
	}
	for _, a := range samples() {
		if got := integer.Format(a); got != toBig(a).String() {
			t.Errorf("%v: %q", a, got)
		}
	}
}

// P2.3: Parse inverts Format
func TestParseInvertsFormat(t *testing.T) {
	for _, a := range samples() {
		b, err := integer.Parse(integer.Format(a))
		if err != nil {
			t.Fatal(a, err)
		}
		check(t, "Parse of Format", b, toBig(a))
	}
}
