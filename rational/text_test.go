package rational_test

import (
	"errors"
	"math/big"
	"strings"
	"testing"

	"bspregion/api"
	"bspregion/rational"
)

// kinds are all kinds of errors.
func kinds() []error {
	return []error{
		api.ErrInvalid, api.ErrSyntax, api.ErrRing, api.ErrName, api.ErrTwice, api.ErrBudget,
		api.ErrUnbounded, api.ErrEmpty, api.ErrSingular, api.ErrLimit, api.ErrRange,
	}
}

// P3.4: Parse of integers and fractions
func TestParse(t *testing.T) {
	most := strings.Repeat("9", api.MaxDigits)
	zeros := strings.Repeat("0", api.MaxDigits-1)
	for _, s := range []string{
		"0", "7", "-7", "007", "-0", "-000", "4/6", "-4/6", "6/3", "0/5", "-0/5", "1/1", "0010/0004", "-3/00001",
		"18446744073709551616/36893488147419103232", "123456789012345678901234567890/7",
		most, "-" + most, most + "/" + most, "-" + most + "/7", "7/" + most, zeros + "4/" + zeros + "6",
	} {
		a, err := rational.Parse(s)
		if err != nil {
			t.Fatalf("%.20q of %d bytes: %v", s, len(s), err)
		}
		check(t, s, a, decimal(t, s))
	}
}

// decimal is the number of a text, read by math/big.
func decimal(t *testing.T, s string) *big.Rat {
	t.Helper()
	up, down, ok := strings.Cut(s, "/")
	if !ok {
		down = "1"
	}
	// Rat.SetString would take a leading zero for the prefix of an octal number.
	num, numOK := new(big.Int).SetString(up, 10)
	den, denOK := new(big.Int).SetString(down, 10)
	if !numOK || !denOK {
		t.Fatalf("%.20q of %d bytes is no number", s, len(s))
	}
	return new(big.Rat).SetFrac(num, den)
}

// P3.4: texts that have none of the forms
func TestParseSyntax(t *testing.T) {
	long := strings.Repeat("1", api.MaxDigits+1)
	for _, s := range []string{
		"", "-", "/", "-/", "1/", "/1", "-/1", "1/-", "1/-2", "1/+2", "+1/2", "--1/2", "1//2", "1/2/3", "1/2/", "/1/2",
		" 1/2", "1/2 ", "1 /2", "1/ 2", "1/2\n", "1.5", "1e3", "0x1", "1_0", "a", "a/b", "1/b", "a/1", "1/0x", "x/0", "1/0/0",
		"\u2212" + "1", "1\u2044" + "2", "1/2\x00", "\xff", "1/\xff",
		long + "x", long + "/", "/" + long, long + "/x", "x/" + long, long + "/-" + long, "-" + long + "//" + long, long + "/0/1",
	} {
		checkKind(t, s, api.ErrSyntax)
	}
}

// P3.4: numbers with too many digits, whatever the digits after the slash denote
func TestParseLimit(t *testing.T) {
	long := strings.Repeat("1", api.MaxDigits+1)
	zeros := strings.Repeat("0", api.MaxDigits+1)
	for _, s := range []string{
		long, "-" + long, zeros, long + "/1", "1/" + long, "-" + long + "/" + long, long + "/0", "-" + long + "/000", "1/" + zeros, "0/" + zeros,
	} {
		checkKind(t, s, api.ErrLimit)
	}
}

// P3.4: the digits after the slash denote 0.
func TestParseRange(t *testing.T) {
	for _, s := range []string{"1/0", "-1/0", "0/0", "-0/0", "1/000", "5/" + strings.Repeat("0", api.MaxDigits), strings.Repeat("1", api.MaxDigits) + "/0"} {
		checkKind(t, s, api.ErrRange)
	}
}

// checkKind demands that Parse returns the zero value and an error of this kind only, which has a text.
func checkKind(t *testing.T, s string, want error) {
	t.Helper()
	a, err := rational.Parse(s)
	checkNone(t, s, a)
	for _, kind := range kinds() {
		if got := errors.Is(err, kind); got != (kind == want) {
			t.Errorf("%.20q of %d bytes: %v is %v: %v", s, len(s), err, kind, got)
		}
	}
	if err != nil && err.Error() == "" {
		t.Errorf("%.20q of %d bytes: no text", s, len(s))
	}
}

// Ways: the errors of the parts are wrapped.
func TestParseWraps(t *testing.T) {
	for _, s := range []string{"x", "1/x", "1/0", strings.Repeat("1", api.MaxDigits+1)} {
		if _, err := rational.Parse(s); errors.Unwrap(err) == nil {
			t.Errorf("%.20q: %v", s, err)
		}
	}
}

// P3.4: Format
func TestFormat(t *testing.T) {
	for _, c := range []struct {
		a    api.Rat
		want string
	}{
		{api.Rat{}, "0"},
		{small(7, 0), "0"},
		{small(-7, 0), "0"},
		{small(0, 7), "0"},
		{api.Rat{Num: api.Int{Neg: true}, Den: api.Nat{7}}, "0"},
		{small(7, 1), "7"},
		{small(-7, 1), "-7"},
		{small(6, 3), "2"},
		{small(4, 6), "2/3"},
		{small(-4, 6), "-2/3"},
		{small(-1, 2), "-1/2"},
		{api.Rat{Num: api.Int{Abs: api.Nat{1, 0}}, Den: api.Nat{0, 1, 0}}, "1/4294967296"},
	} {
		if got := rational.Format(c.a); got != c.want {
			t.Errorf("%v: %q", c.a, got)
		}
	}
	for _, a := range samples() {
		if got := rational.Format(a); got != toBig(a).RatString() {
			t.Errorf("%v: %q", a, got)
		}
	}
}

// Consequences: Parse inverts Format.
func TestParseInvertsFormat(t *testing.T) {
	for _, a := range samples() {
		b, err := rational.Parse(rational.Format(a))
		if err != nil {
			t.Fatal(a, err)
		}
		check(t, "Parse of Format", b, toBig(a))
	}
}
