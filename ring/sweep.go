package ring

import (
	"slices"
	"sort"

	"bspregion/api"
	"bspregion/point"
)

// stretch is an edge that runs from left to right: left comes before right in the order of point.Compare.
type stretch struct {
	left, right api.Point
}

// side is 1 if p lies above s, -1 if it lies below s, and 0 if it lies on s, where p is not to the left or to the right of s.
func (s *stretch) side(p api.Point) int {
	return point.Orient(s.left, s.right, p)
}

// front are the edges that a vertical line crosses, from below upwards. The line moves to the right over the vertices, and leans so little that it meets those with the same X one after the other, from below upwards.
type front []*stretch

// disjoint reports whether no two edges of a ring have a common point but a vertex of both. The corners are in the order of their vertices, which are all different, and none of them folds.
func disjoint(order []corner) bool {
	// The line does not get beyond the first one of the other common points: two edges to which it belongs are neighbors in the front before it, or an edge begins at it.
	var f front
	for _, c := range order {
		var ok bool
		if f, ok = f.pass(c); !ok {
			return false
		}
	}
	return true
}

// pass returns the front to the right of the corner and true, or false if edges that have become neighbors have a common point.
func (f front) pass(c corner) (front, bool) {
	begun := c.begun()
	ended := 2 - len(begun)
	// The edges that end here are the ones on which the vertex lies.
	at := sort.Search(len(f), func(i int) bool { return f[i].side(c.vertex) <= 0 })
	if ended == 0 && at < len(f) && f[at].side(c.vertex) == 0 {
		return nil, false
	}
	f = slices.Replace(f, at, at+ended, begun...)
	return f, f.apart(at) && f.apart(at+len(begun))
}

// begun are the edges to the right of the vertex, from below upwards.
func (c corner) begun() []*stretch {
	ends := []api.Point{c.after, c.before}
	if c.turn() < 0 {
		slices.Reverse(ends)
	}
	var list []*stretch
	for _, end := range ends {
		if point.Compare(c.vertex, end) < 0 {
			list = append(list, &stretch{c.vertex, end})
		}
	}
	return list
}

// apart reports whether edge i of the front and the one below it, if there are both, have no common point to the right of the line but a vertex of both. They are apart if they are at the first one of their ends.
func (f front) apart(i int) bool {
	if i == 0 || i == len(f) {
		return true
	}
	lower, upper := f[i-1], f[i]
	switch point.Compare(lower.right, upper.right) {
	case -1:
		return upper.side(lower.right) < 0
	case 1:
		return lower.side(upper.right) > 0
	}
	return true
}
