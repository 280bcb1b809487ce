package convex

import (
	"slices"
	"sort"

	"bspregion/api"
	"bspregion/line"
)

// borders are the sides of a canonical cell. The edge of a side is what it has in common with the closure of the cell: it runs from the corner with the side before it to the corner with the next one, cyclically. A corner is infinitely far away where the next side is no left turn. They share the memory of arguments, so they are not to leave the package.
type borders []api.Line

// bordersOf returns the borders of the interior of the cell with these sides, and true, or false if it is empty.
func bordersOf(sides []api.Line) (borders, bool) {
	// Most cells are results of this package.
	if b := borders(sides); b.canonical() {
		return b, true
	}
	var b borders
	for _, l := range sides {
		var ok bool
		if b, ok = b.clip(l); !ok {
			return nil, false
		}
	}
	return b, true
}

// canonical reports whether the lines are the borders of a cell. It is enough to look at neighbors: if each edge has a part to the left of the next side, the edges form a convex curve, which turns round at most once, as the angles ascend.
func (b borders) canonical() bool {
	for i, l := range b {
		if i > 0 && compareAngles(b[i-1], l) >= 0 {
			return false
		}
		if len(b) > 1 && !b.reaches(i, b.at(i+1)) {
			return false
		}
	}
	return true
}

// at is side i, counted cyclically from -1 on.
func (b borders) at(i int) api.Line {
	return b[(i+len(b))%len(b)]
}

// reaches reports whether the edge of side i has points on the left side of l.
func (b borders) reaches(i int, l api.Line) bool {
	before, side, next := b.at(i-1), b.at(i), b.at(i+1)
	start := turn(side, l)
	if start == 0 {
		return sideOf(l, side) > 0
	}
	// An end that is no corner is infinitely far away, where the turn decides.
	end := -start
	if turn(before, side) > 0 {
		start = corner(before, side, l)
	}
	if start > 0 {
		return true
	}
	if turn(side, next) > 0 {
		end = corner(side, next, l)
	}
	return end > 0
}

// position is the number of sides whose angle is not greater than that of l.
func (b borders) position(l api.Line) int {
	return sort.Search(len(b), func(i int) bool { return compareAngles(b[i], l) > 0 })
}

// within reports whether the cell lies on the left side of l.
func (b borders) within(l api.Line) bool {
	if len(b) == 0 {
		return false
	}
	// If the cell has points on the right side of l, then it has some near the corner where the angle of l belongs.
	i := b.position(l)
	before, next := b.at(i-1), b.at(i)
	if compareAngles(before, l) == 0 {
		return sideOf(l, before) >= 0
	}
	return turn(before, next) > 0 && corner(before, next, l) >= 0
}

// place returns 1 if the cell lies on the left side of l, -1 if it lies on the right side, and 0 otherwise.
func (b borders) place(l api.Line) int {
	switch {
	case b.within(l):
		return 1
	case b.within(line.Reverse(l)):
		return -1
	}
	return 0
}

// clip returns the borders of the part of the cell on the left side of l, and true, or false if it is empty.
func (b borders) clip(l api.Line) (borders, bool) {
	switch b.place(l) {
	case 1:
		return b, true
	case -1:
		return nil, false
	}
	return b.cut(l), true
}

// cut returns the borders of the part of the cell on the left side of l, which has points on both sides of it. The sides that get lost are the ones next to the place of l among the angles.
func (b borders) cut(l api.Line) borders {
	n, i := len(b), b.position(l)
	// The sides that are left, from the one after l on round to the one before it; the numbers from n on stand for the first sides.
	from, to := i, i+n
	for from < to && !b.reaches(to-1, l) {
		to--
	}
	for from < to && !b.reaches(from, l) {
		from++
	}
	return slices.Concat(b[max(from, n)-n:max(to, n)-n], borders{l}, b[min(from, n):min(to, n)])
}
