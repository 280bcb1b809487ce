package integer

import (
	"strings"

	"bspregion/api"
	"bspregion/nat"
)

const minus = "-"

// Parse reads an optional minus sign followed by digits.
func Parse(s string) (api.Int, error) {
	digits, negative := strings.CutPrefix(s, minus)
	abs, err := nat.Parse(digits)
	if err != nil {
		return api.Int{}, err
	}
	return signed(negative, abs), nil
}

// Format returns the decimal digits of a, after a minus sign if a is negative.
func Format(a api.Int) string {
	digits := nat.Format(a.Abs)
	if Sign(a) < 0 {
		return minus + digits
	}
	return digits
}
