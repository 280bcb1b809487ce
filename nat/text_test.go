package nat_test

import (
	"errors"
	"math/big"
	"strings"
	"testing"

	"bspregion/api"
	"bspregion/nat"
)

// P1.5: Parse of digits
func TestParse(t *testing.T) {
	for _, s := range []string{
		"0", "1", "9", "10", "007", "000000000", "0000000000000000000000", "123456789", "1234567890", "999999999", "1000000000",
		"4294967295", "4294967296", "18446744073709551615", "18446744073709551616", "340282366920938463463374607431768211456",
		"000000000000000000000000000000000000000000000000000000000001000000000000000000000000000000",
		strings.Repeat("9", api.MaxDigits), "1" + strings.Repeat("0", api.MaxDigits-1), strings.Repeat("0", api.MaxDigits), strings.Repeat("0", api.MaxDigits-1) + "7",
	} {
		a, err := nat.Parse(s)
		if err != nil {
			t.Fatal(s, err)
		}
		check(t, "Parse", a, parse(t, s))
	}
}

// P1.5: the errors of Parse
func TestParseErrors(t *testing.T) {
	long := strings.Repeat("1", api.MaxDigits+1)
	for _, c := range []struct {
		s    string
		kind error
	}{
		{"", api.ErrSyntax},
		{"+7", api.ErrSyntax},
		{"-7", api.ErrSyntax},
		{" 7", api.ErrSyntax},
		{"7 ", api.ErrSyntax},
		{"7\n", api.ErrSyntax},
		{"1_000", api.ErrSyntax},
		{"0x10", api.ErrSyntax},
		{"1e3", api.ErrSyntax},
		{"1/2", api.ErrSyntax},
		{"1:", api.ErrSyntax},
		{"\x00", api.ErrSyntax},
		{"1\xff", api.ErrSyntax},
		{"\u0661", api.ErrSyntax},
		{long, api.ErrLimit},
		{strings.Repeat("0", api.MaxDigits+1), api.ErrLimit},
		{strings.Repeat("1", 1<<17), api.ErrLimit},
		{long + "x", api.ErrSyntax},
		{"x" + long, api.ErrSyntax},
	} {
		a, err := nat.Parse(c.s)
		if !errors.Is(err, c.kind) || len(a) != 0 {
			t.Errorf("%.20q of %d bytes: %v %v", c.s, len(c.s), a, err)
		}
	}
	for b := range 256 {
		_, err := nat.Parse("1" + string([]byte{byte(b)}))
		if isDigit := '0' <= b && b <= '9'; isDigit != (err == nil) {
			t.Error("the byte", b, err)
		}
	}
}

// P1.5: Format
func TestFormat(t *testing.T) {
	for _, a := range samples() {
		if got := nat.Format(a); got != toBig(a).String() {
			t.Errorf("%v: %q", a, got)
		}
	}
	power := big.NewInt(1)
	for range 60 {
		for _, n := range []*big.Int{power, new(big.Int).Sub(power, big.NewInt(1)), new(big.Int).Add(power, big.NewInt(1))} {
			if got := nat.Format(append(fromBig(n), 0)); got != n.String() {
				t.Errorf("%v: %q", n, got)
			}
		}
		power = new(big.Int).Mul(power, big.NewInt(10))
	}
}

// P1.5: Parse inverts Format
func TestParseInvertsFormat(t *testing.T) {
	for _, a := range samples() {
		b, err := nat.Parse(nat.Format(a))
		if err != nil {
			t.Fatal(a, err)
		}
		check(t, "Parse of Format", b, toBig(a))
	}
	if s := nat.Format(nat.Shl(api.Nat{1}, 20000)); len(s) != 6021 {
		t.Error("more digits than Parse reads:", len(s))
	}
}
