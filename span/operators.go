package span

import "bspregion/api"

// Join returns the set that is the union of the spans, which are valid and in any order.
func Join(l []api.Span) ([]api.Span, error) {
	if !validList(l) {
		return nil, api.ErrInvalid
	}
	return reached(tallyOf(l).sorted(), tally{}, 1), nil
}

// Union returns the union of the sets a and b.
func Union(a, b []api.Span) ([]api.Span, error) {
	if !Valid(a) || !Valid(b) {
		return nil, api.ErrInvalid
	}
	return reached(tallyOf(a), tallyOf(b), 1), nil
}

// Intersect returns the regularized intersection of the sets a and b.
func Intersect(a, b []api.Span) ([]api.Span, error) {
	if !Valid(a) || !Valid(b) {
		return nil, api.ErrInvalid
	}
	return reached(tallyOf(a), tallyOf(b), 2), nil
}

// Subtract returns the regularized difference of the sets a and b.
func Subtract(a, b []api.Span) ([]api.Span, error) {
	if !Valid(a) || !Valid(b) {
		return nil, api.ErrInvalid
	}
	return reached(tallyOf(a), tallyOf(b).inverse(), 2), nil
}

// Complement returns the regularized complement of the set a.
func Complement(a []api.Span) ([]api.Span, error) {
	if !Valid(a) {
		return nil, api.ErrInvalid
	}
	return reached(tallyOf(a).inverse(), tally{}, 1), nil
}
