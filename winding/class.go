package winding

import (
	"slices"

	"bspregion/api"
	"bspregion/point"
)

// Class returns api.Inside, api.Boundary or api.Outside for p and the region of the rings, and ErrInvalid if fill is no fill rule.
func Class(rings []api.Ring, fill int, p api.Point) (int, error) {
	if err := check(rings); err != nil {
		return 0, err
	}
	r := ruleOf(fill)
	if r == noRule {
		return 0, api.ErrInvalid
	}
	numbers := around(rings, p)
	rejects := func(n int) bool { return !r.accepts(n) }
	switch {
	case !slices.ContainsFunc(numbers, r.accepts):
		return api.Outside, nil
	case !slices.ContainsFunc(numbers, rejects):
		return api.Inside, nil
	}
	return api.Boundary, nil
}

// around are the winding numbers of the points that are near p and lie on no edge, counterclockwise.
func around(rings []api.Ring, p api.Point) []int {
	list := spokes(rings, p)
	// The crossings yield the number just above the ray from p to the right, but the way around p begins just below it.
	number := crossings(rings, p)
	right := point.FromInts(1, 0)
	for _, s := range list {
		if point.Angle(s.direction, right) == 0 {
			number -= s.change
		}
	}
	numbers := []int{number}
	for i, s := range list {
		number += s.change
		if i+1 == len(list) || s.compare(list[i+1]) != 0 {
			numbers = append(numbers, number)
		}
	}
	return numbers
}

// spoke is the part of an edge between a point on it and one of its ends: the direction in which it leaves the point, and the change of the winding number where it is passed counterclockwise.
type spoke struct {
	direction api.Point
	change    int
}

// compare orders spokes by their directions.
func (s spoke) compare(t spoke) int {
	return point.Angle(s.direction, t.direction)
}

// spokes are the parts of edges that begin at p, ascending by their directions.
func spokes(rings []api.Ring, p api.Point) []spoke {
	var list []spoke
	add := func(end api.Point, change int) {
		if !point.Same(end, p) {
			list = append(list, spoke{point.Sub(end, p), change})
		}
	}
	for v, w := range edges(rings) {
		if point.Between(v, w, p) {
			add(v, -1)
			add(w, 1)
		}
	}
	slices.SortFunc(list, spoke.compare)
	return list
}
