package nat

import (
	"strconv"

	"bspregion/api"
)

// The decimal digits are converted in groups that fit a digit in base 2^32.
const (
	groupDigits = 9
	groupBase   = 1000000000
)

// Parse reads 1 to MaxDigits decimal digits.
func Parse(s string) (api.Nat, error) {
	if !onlyDigits(s) {
		return nil, api.ErrSyntax
	}
	if len(s) > api.MaxDigits {
		return nil, api.ErrLimit
	}
	a := make(api.Nat, 0, len(s)/groupDigits+1)
	for len(s) > 0 {
		n := min(len(s), groupDigits)
		scale, group := uint64(1), uint64(0)
		for i := range n {
			scale *= 10
			group = group*10 + uint64(s[i]-'0')
		}
		a = scaleAdd(a, scale, group)
		s = s[n:]
	}
	return a, nil
}

// onlyDigits reports whether s consists of one or more decimal digits.
func onlyDigits(s string) bool {
	for i := range len(s) {
		if s[i] < '0' || s[i] > '9' {
			return false
		}
	}
	return s != ""
}

// scaleAdd returns a * scale + carry in the memory of a, for numbers scale and carry that fit a digit.
func scaleAdd(a api.Nat, scale, carry uint64) api.Nat {
	for i := range len(a) {
		carry += uint64(a[i]) * scale
		a[i] = uint32(carry)
		carry >>= digitBits
	}
	if carry > 0 {
		a = append(a, uint32(carry))
	}
	return a
}

// Format returns the decimal digits of a without leading zeros, "0" for 0.
func Format(a api.Nat) string {
	rest := Norm(a)
	var groups []uint32
	for len(rest) > 0 {
		groups = append(groups, divideByDigit(rest, groupBase))
		rest = trim(rest)
	}
	if len(groups) == 0 {
		return "0"
	}
	last := len(groups) - 1
	text := strconv.AppendUint(nil, uint64(groups[last]), 10)
	for i := last - 1; i >= 0; i-- {
		for scale := uint32(groupBase / 10); scale > 0; scale /= 10 {
			text = append(text, '0'+byte(groups[i]/scale%10))
		}
	}
	return string(text)
}
