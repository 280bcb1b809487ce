package winding_test

import (
	"cmp"
	"iter"
	"maps"
	"math"
	"slices"

	"bspregion/api"
	"bspregion/integer"
	"bspregion/line"
	"bspregion/point"
)

// spot is a point with small coordinates, so that int64 is enough for all products here.
type spot [2]int64

// plus is the sum.
func (p spot) plus(q spot) spot {
	return spot{p[0] + q[0], p[1] + q[1]}
}

// minus is the difference.
func (p spot) minus(q spot) spot {
	return spot{p[0] - q[0], p[1] - q[1]}
}

// times is the multiple.
func (p spot) times(c int64) spot {
	return spot{c * p[0], c * p[1]}
}

// cross is the cross product.
func (p spot) cross(q spot) int64 {
	return p[0]*q[1] - p[1]*q[0]
}

// dot is the scalar product.
func (p spot) dot(q spot) int64 {
	return p[0]*q[0] + p[1]*q[1]
}

// angle is the angle of the direction of p.
func (p spot) angle() float64 {
	return math.Atan2(float64(p[1]), float64(p[0]))
}

// point is the point p.
func (p spot) point() api.Point {
	return point.FromInts(p[0], p[1])
}

// spots are the vertices of a ring.
type spots []spot

// ring is the ring with these vertices.
func (l spots) ring() api.Ring {
	var r api.Ring
	for _, p := range l {
		r = append(r, p.point())
	}
	return r
}

// valid reports whether l is a valid ring: by the number of its different vertices and by its edges.
func (l spots) valid() bool {
	different := map[spot]bool{}
	for i, p := range l {
		different[p] = true
		if p == l[(i+1)%len(l)] {
			return false
		}
	}
	return len(different) >= 3
}

// reversed is l in the opposite order.
func (l spots) reversed() spots {
	m := slices.Clone(l)
	slices.Reverse(m)
	return m
}

// system is a list of rings.
type system []spots

// rings are the rings of s.
func (s system) rings() []api.Ring {
	var list []api.Ring
	for _, l := range s {
		list = append(list, l.ring())
	}
	return list
}

// times is s, enlarged.
func (s system) times(c int64) system {
	var result system
	for _, l := range s {
		var m spots
		for _, p := range l {
			m = append(m, p.times(c))
		}
		result = append(result, m)
	}
	return result
}

// edges are the ends of the edges.
func (s system) edges() iter.Seq2[spot, spot] {
	return func(yield func(v, w spot) bool) {
		for _, l := range s {
			for i, v := range l {
				if !yield(v, l[(i+1)%len(l)]) {
					return
				}
			}
		}
	}
}

// on reports whether p lies on an edge: it sees the ends of the edge in opposite directions, or is one of them.
func (s system) on(p spot) bool {
	for v, w := range s.edges() {
		if a, b := v.minus(p), w.minus(p); a.cross(b) == 0 && a.dot(b) <= 0 {
			return true
		}
	}
	return false
}

// number is the winding number by the words of the chapter, where p lies on no edge.
func (s system) number(p spot) int {
	n := 0
	for v, w := range s.edges() {
		side := w.minus(v).cross(p.minus(v))
		switch {
		case v[1] <= p[1] && p[1] < w[1] && side > 0:
			n++
		case w[1] <= p[1] && p[1] < v[1] && side < 0:
			n--
		}
	}
	return n
}

// rounds is the number of times that the direction from p to a point that runs along the edges goes round counterclockwise. It is the winding number, but found without a ray.
func (s system) rounds(p spot) int {
	sum := 0.0
	for v, w := range s.edges() {
		a, b := v.minus(p), w.minus(p)
		sum += math.Atan2(float64(a.cross(b)), float64(a.dot(b)))
	}
	return int(math.Round(sum / (2 * math.Pi)))
}

// accepts is the fill rule by the words of the chapter.
func accepts(fill, n int) bool {
	return fill == api.EvenOdd && n&1 == 1 || fill == api.NonZero && n != 0
}

// steps are vectors in all directions between those of neighboring vectors with coordinates of at most 4.
var steps = func() spots {
	first := map[spot]bool{}
	for x := int64(-4); x <= 4; x++ {
		for y := int64(-4); y <= 4; y++ {
			if d := gcd(max(x, -x), max(y, -y)); d > 0 {
				first[spot{x / d, y / d}] = true
			}
		}
	}
	around := slices.SortedFunc(maps.Keys(first), func(p, q spot) int { return cmp.Compare(p.angle(), q.angle()) })
	var list spots
	for i, p := range around {
		list = append(list, p.plus(around[(i+1)%len(around)]))
	}
	return list
}()

// class is the class of p, by the winding numbers at points so near to p that no other edges come between. The edges are those of rings of samples: the vertices have even coordinates from 0 to 8, so that no edge leaves p in the direction of a step, and none gets near p but those that contain it.
func (s system) class(fill int, p spot) int {
	const scale = 1000
	large := s.times(scale)
	accepted := 0
	for _, step := range steps {
		if accepts(fill, large.number(p.times(scale).plus(step))) {
			accepted++
		}
	}
	switch accepted {
	case 0:
		return api.Outside
	case len(steps):
		return api.Inside
	}
	return api.Boundary
}

// lines are the lines of the edges, found with int64.
func (s system) lines() []api.Line {
	different := map[[3]int64]bool{}
	for v, w := range s.edges() {
		a, b, c := v[1]-w[1], w[0]-v[0], v.cross(w)
		d := gcd(gcd(max(a, -a), max(b, -b)), max(c, -c))
		if a < 0 || a == 0 && b < 0 {
			d = -d
		}
		different[[3]int64{a / d, b / d, c / d}] = true
	}
	order := slices.SortedFunc(maps.Keys(different), func(l, m [3]int64) int { return slices.Compare(l[:], m[:]) })
	var list []api.Line
	for _, l := range order {
		list = append(list, lineOf(l[0], l[1], l[2]))
	}
	return list
}

// lineOf is the line with these coefficients.
func lineOf(a, b, c int64) api.Line {
	l, ok := line.New(integer.FromInt(a), integer.FromInt(b), integer.FromInt(c))
	if !ok {
		panic("no line")
	}
	return l
}

// gcd is the greatest common divisor of two natural numbers.
func gcd(a, b int64) int64 {
	for b != 0 {
		a, b = b, a%b
	}
	return a
}
