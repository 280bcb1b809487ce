package ring

import (
	"slices"

	"bspregion/api"
	"bspregion/point"
)

// Turns returns, for each vertex of r, the orientation of the vertex before it, it and the vertex after it.
func Turns(r api.Ring) ([]int, error) {
	if err := Check(r); err != nil {
		return nil, err
	}
	var list []int
	for c := range corners(r) {
		list = append(list, c.turn())
	}
	return list, nil
}

// Convex reports whether r runs counterclockwise around a convex polygon and turns left at each vertex.
func Convex(r api.Ring) (bool, error) {
	turns, err := Turns(r)
	if err != nil {
		return false, err
	}
	left := !slices.ContainsFunc(turns, func(turn int) bool { return turn <= 0 })
	return left && rounds(r) == 1, nil
}

// rounds is the number of times that the direction of the edges goes round counterclockwise, where all turns of r are left turns.
func rounds(r api.Ring) int {
	count := 0
	last := point.Sub(r[0], r[len(r)-1])
	for v, w := range edges(r) {
		direction := point.Sub(w, v)
		if point.Angle(last, direction) > 0 {
			count++
		}
		last = direction
	}
	return count
}

// Simple reports whether no two edges of r have a common point other than the common vertex of consecutive edges.
func Simple(r api.Ring) (bool, error) {
	if err := Check(r); err != nil {
		return false, err
	}
	order := slices.SortedFunc(corners(r), corner.compare)
	for i, c := range order {
		if c.folds() || i > 0 && c.compare(order[i-1]) == 0 {
			return false, nil
		}
	}
	return disjoint(order), nil
}
