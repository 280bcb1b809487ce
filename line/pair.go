package line

import (
	"slices"

	"bspregion/api"
	"bspregion/integer"
)

// bothValid reports whether l and m are valid.
func bothValid(l, m api.Line) bool {
	return Valid(l) && Valid(m)
}

// Same reports whether l and m are valid and equal.
func Same(l, m api.Line) bool {
	return coefficientsOf(l).compare(coefficientsOf(m)) == 0 && bothValid(l, m)
}

// Opposite reports whether l and m are valid and one is the reverse of the other one.
func Opposite(l, m api.Line) bool {
	return coefficientsOf(l).reverse().compare(coefficientsOf(m)) == 0 && bothValid(l, m)
}

// Parallel reports whether l and m are valid and their directions are multiples of each other.
func Parallel(l, m api.Line) bool {
	return integer.Sign(determinant(l.A, l.B, m.A, m.B)) == 0 && bothValid(l, m)
}

// Canon returns the line with the points of l in canonical orientation, and true if that is the reverse of l.
func Canon(l api.Line) (api.Line, bool) {
	if !Valid(l) {
		return api.Line{}, false
	}
	u := coefficientsOf(l)
	// A line in canonical orientation is greater than its reverse.
	both := []coefficients{u, u.reverse()}
	slices.SortFunc(both, coefficients.compare)
	canonical := both[1]
	return canonical.line(), canonical.compare(u) != 0
}

// Compare orders valid lines by A, then B, then C, and returns -1, 0 or 1.
func Compare(l, m api.Line) int {
	if !bothValid(l, m) {
		return 0
	}
	return coefficientsOf(l).compare(coefficientsOf(m))
}

// Meet returns the only common point of l and m and true, or false if they are parallel or not valid.
func Meet(l, m api.Line) (api.Point, bool) {
	if !bothValid(l, m) {
		return api.Point{}, false
	}
	return cross[coordinates](coefficientsOf(l), coefficientsOf(m)).point()
}
