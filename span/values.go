package span

import (
	"slices"

	"bspregion/api"
	"bspregion/rational"
)

// Class returns api.Inside if t lies in the interior of the set a, api.Boundary if it is an end of a span, and api.Outside otherwise.
func Class(a []api.Span, t api.Rat) (int, error) {
	if !Valid(a) {
		return 0, api.ErrInvalid
	}
	for _, s := range a {
		switch place(s, t) {
		case -1:
			return api.Inside, nil
		case 0:
			return api.Boundary, nil
		}
	}
	return api.Outside, nil
}

// place is -1 if t lies in the interior of s, 0 if it is an end of s, and 1 otherwise.
func place(s api.Span, t api.Rat) int {
	result := -1
	if !s.NoLo {
		result = rational.Cmp(s.Lo, t)
	}
	if !s.NoHi {
		result = max(result, rational.Cmp(t, s.Hi))
	}
	return result
}

// Length returns the sum of the lengths of the spans of the set a.
func Length(a []api.Span) (api.Rat, error) {
	switch {
	case !Valid(a):
		return api.Rat{}, api.ErrInvalid
	case slices.ContainsFunc(a, func(s api.Span) bool { return s.NoLo || s.NoHi }):
		return api.Rat{}, api.ErrUnbounded
	}
	return total(a), nil
}

// total is the sum of the lengths of spans that have both ends. The halves of the list are added up first, as sums of many numbers have many digits.
func total(list []api.Span) api.Rat {
	switch len(list) {
	case 0:
		return rational.FromInt(0)
	case 1:
		return rational.Sub(list[0].Hi, list[0].Lo)
	}
	half := len(list) / 2
	return rational.Add(total(list[:half]), total(list[half:]))
}

// Samples returns one number in the interior of each span of the set a, in order.
func Samples(a []api.Span) ([]api.Rat, error) {
	if !Valid(a) {
		return nil, api.ErrInvalid
	}
	var list []api.Rat
	for _, s := range a {
		list = append(list, sample(s))
	}
	return list, nil
}

// sample is the middle of s, a number at the distance 1 from its only end, or 0.
func sample(s api.Span) api.Rat {
	one := rational.FromInt(1)
	switch {
	case s.NoLo && s.NoHi:
		return rational.FromInt(0)
	case s.NoLo:
		return rational.Sub(s.Hi, one)
	case s.NoHi:
		return rational.Add(s.Lo, one)
	}
	return rational.Middle(s.Lo, s.Hi)
}
