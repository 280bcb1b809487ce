package ring

import (
	"iter"

	"bspregion/api"
	"bspregion/point"
)

// edges visits the edges of r in order: the vertex where each one starts, and the vertex where it ends.
func edges(r api.Ring) iter.Seq2[api.Point, api.Point] {
	return func(yield func(v, w api.Point) bool) {
		for i, v := range r {
			if !yield(v, r[(i+1)%len(r)]) {
				return
			}
		}
	}
}

// corner is a vertex of a ring with the vertices before and after it.
type corner struct {
	before, vertex, after api.Point
}

// corners visits the corners of r in the order of their vertices.
func corners(r api.Ring) iter.Seq[corner] {
	return func(yield func(c corner) bool) {
		for i, v := range r {
			before, after := r[(i+len(r)-1)%len(r)], r[(i+1)%len(r)]
			if !yield(corner{before, v, after}) {
				return
			}
		}
	}
}

// turn is 1 for a left turn, -1 for a right turn, and 0 if the corner lies on a line.
func (c corner) turn() int {
	return point.Orient(c.before, c.vertex, c.after)
}

// folds reports whether the edge after the vertex runs back over the one before it.
func (c corner) folds() bool {
	return c.turn() == 0 && !point.Between(c.before, c.after, c.vertex)
}

// compare orders corners by their vertices.
func (c corner) compare(d corner) int {
	return point.Compare(c.vertex, d.vertex)
}
