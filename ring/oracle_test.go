package ring_test

import (
	"cmp"
	"slices"

	"bspregion/api"
	"bspregion/point"
)

// spot is a point with small coordinates, so that int64 is enough for all products here.
type spot [2]int64

// compare orders spots by their coordinates.
func (p spot) compare(q spot) int {
	return slices.Compare(p[:], q[:])
}

// cross is the cross product.
func (p spot) cross(q spot) int64 {
	return p[0]*q[1] - p[1]*q[0]
}

// plus is the sum.
func (p spot) plus(q spot) spot {
	return spot{p[0] + q[0], p[1] + q[1]}
}

// minus is the difference.
func (p spot) minus(q spot) spot {
	return spot{p[0] - q[0], p[1] - q[1]}
}

// orient is 1, 0 or -1 if p, q, s make a left turn, lie on a line or make a right turn.
func orient(p, q, s spot) int {
	return cmp.Compare(q.minus(p).cross(s.minus(p)), 0)
}

// between reports whether s, which lies on a line with p and q, lies between them or is one of them.
func between(p, q, s spot) bool {
	return min(p[0], q[0]) <= s[0] && s[0] <= max(p[0], q[0]) && min(p[1], q[1]) <= s[1] && s[1] <= max(p[1], q[1])
}

// on reports whether s lies on the segment from p to q.
func on(p, q, s spot) bool {
	return orient(p, q, s) == 0 && between(p, q, s)
}

// spots are the vertices of a ring.
type spots []spot

// ring is the ring with these vertices.
func (l spots) ring() api.Ring {
	var r api.Ring
	for _, p := range l {
		r = append(r, point.FromInts(p[0], p[1]))
	}
	return r
}

// at is the vertex i, counted cyclically.
func (l spots) at(i int) spot {
	return l[(i+len(l))%len(l)]
}

// rotated begins with the vertex i of l.
func (l spots) rotated(i int) spots {
	return slices.Concat(l[i:], l[:i])
}

// valid reports whether l is a valid ring: by the number of its different vertices and by its edges.
func (l spots) valid() bool {
	different := map[spot]bool{}
	for i, p := range l {
		different[p] = true
		if p == l.at(i+1) {
			return false
		}
	}
	return len(different) >= 3
}

// doubleArea is the sum of the cross products over the edges.
func (l spots) doubleArea() int64 {
	var sum int64
	for i, p := range l {
		sum += p.cross(l.at(i + 1))
	}
	return sum
}

// turns are the orientations at the vertices.
func (l spots) turns() []int {
	var list []int
	for i, p := range l {
		list = append(list, orient(l.at(i-1), p, l.at(i+1)))
	}
	return list
}

// meet reports whether the edges i and j, which are not consecutive, have a common point.
func (l spots) meet(i, j int) bool {
	a, b, c, d := l.at(i), l.at(i+1), l.at(j), l.at(j+1)
	if on(a, b, c) || on(a, b, d) || on(c, d, a) || on(c, d, b) {
		return true
	}
	return orient(a, b, c)*orient(a, b, d) < 0 && orient(c, d, a)*orient(c, d, b) < 0
}

// simple examines all pairs of edges. Consecutive ones have another common point exactly if the other end of one of them lies on the other one.
func (l spots) simple() bool {
	n := len(l)
	for i := range n {
		a, b, c := l.at(i), l.at(i+1), l.at(i+2)
		if on(a, b, c) || on(b, c, a) {
			return false
		}
		for j := range i {
			if j+1 < i && j+n > i+1 && l.meet(i, j) {
				return false
			}
		}
	}
	return true
}

// convex examines all edges and all other vertices.
func (l spots) convex() bool {
	for i, p := range l {
		for j := 2; j < len(l); j++ {
			if orient(p, l.at(i+1), l.at(i+j)) <= 0 {
				return false
			}
		}
	}
	return true
}

// compare orders rings by the first different vertex.
func (l spots) compare(m spots) int {
	return slices.CompareFunc(l, m, spot.compare)
}

// canon is the least one of all rotations.
func (l spots) canon() spots {
	least := l
	for i := range l {
		if m := l.rotated(i); m.compare(least) < 0 {
			least = m
		}
	}
	return least
}
