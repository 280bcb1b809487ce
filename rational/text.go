package rational

import (
	"errors"
	"strings"

	"bspregion/api"
	"bspregion/integer"
	"bspregion/nat"
)

const slash = "/"

// Parts of the text of a rational number.
const (
	numerator   = "numerator"
	denominator = "denominator"
)

// partError is an error of a part of the text of a rational number.
type partError struct {
	part string
	err  error
}

// Error returns the text of the error.
func (e partError) Error() string { return e.part + ": " + e.err.Error() }

// Unwrap returns the error of the part.
func (e partError) Unwrap() error { return e.err }

// Parse reads an integer, or an integer, a slash and digits.
func Parse(s string) (api.Rat, error) {
	numText, denText, isFraction := strings.Cut(s, slash)
	if !isFraction {
		denText = "1"
	}
	num, numErr := integer.Parse(numText)
	den, denErr := nat.Parse(denText)
	switch {
	// A syntax error after the slash goes before any other error before it.
	case errors.Is(denErr, api.ErrSyntax):
		return api.Rat{}, partError{denominator, denErr}
	case numErr != nil:
		return api.Rat{}, partError{numerator, numErr}
	case denErr != nil:
		return api.Rat{}, partError{denominator, denErr}
	case isZero(den):
		return api.Rat{}, partError{denominator, api.ErrRange}
	}
	return lowest(num, den), nil
}

// Format returns the numerator of a, and, if the denominator is not 1, a slash and the denominator.
func Format(a api.Rat) string {
	a = Norm(a)
	num := integer.Format(a.Num)
	if isOne(a.Den) {
		return num
	}
	return num + slash + nat.Format(a.Den)
}
