package ring_test

import (
	"slices"
	"testing"

	"bspregion/api"
	"bspregion/rational"
	"bspregion/ring"
)

// checkShape examines Simple, Convex and Turns of r, which has the orientations of l.
func checkShape(t *testing.T, l spots, r api.Ring) {
	t.Helper()
	simple, err := ring.Simple(r)
	checkIs(t, "Simple", r, simple, err, l.simple())
	convex, err := ring.Convex(r)
	checkIs(t, "Convex", r, convex, err, l.convex())
	turns, err := ring.Turns(r)
	checkTurns(t, r, turns, err, l.turns())
}

// P9.4: Simple, Convex and Turns of all rings of few vertices
func TestShapeFew(t *testing.T) {
	few(func(l spots) { checkShape(t, l, l.ring()) })
}

// P9.4: Simple, Convex and Turns of rings of more vertices
func TestShapeMany(t *testing.T) {
	many(func(l spots) { checkShape(t, l, l.ring()) })
}

// P9.4: Simple, Convex and Turns of rings whose coordinates have many digits
func TestShapeLong(t *testing.T) {
	long(func(l spots, r api.Ring, m mapping) { checkShape(t, l, r) })
	count := 0
	few(func(l spots) {
		if count++; count%40 == 0 {
			for _, m := range mappings() {
				checkShape(t, l, m.of(l))
			}
		}
	})
}

// shape is what Simple and Convex report of a ring.
type shape struct {
	l              spots
	simple, convex bool
}

// shapes are rings whose shapes are found by hand.
func shapes() []shape {
	square := spots{{0, 0}, {2, 0}, {2, 2}, {0, 2}}
	return []shape{
		{square, true, true},
		{spots{{0, 0}, {0, 2}, {2, 2}, {2, 0}}, true, false},
		{spots{{0, 0}, {1, 0}, {0, 1}}, true, true},
		{spots{{0, 0}, {0, 1}, {1, 0}}, true, false},
		{spots{{0, 0}, {1, 0}, {2, 0}}, false, false},
		{spots{{0, 0}, {1, 0}, {2, 0}, {0, 2}}, true, false},
		{spots{{0, 0}, {2, 0}, {1, 0}, {0, 2}}, false, false},
		{spots{{0, 0}, {1, 1}, {1, 0}, {0, 1}}, false, false},
		{spots{{0, 0}, {4, 0}, {1, 1}, {0, 4}}, true, false},
		// A vertex lies on an edge, and the edges of the vertex on its left or on its right side.
		{spots{{0, 0}, {4, 0}, {4, 4}, {0, 4}, {4, 2}, {0, 1}}, false, false},
		{spots{{0, 0}, {4, 0}, {4, 4}, {2, 0}, {0, 4}}, false, false},
		{spots{{0, 0}, {4, 0}, {4, 4}, {6, 4}, {6, -4}, {2, 0}, {0, -4}}, false, false},
		// Two vertices are the same point.
		{spots{{0, 0}, {2, 0}, {1, 1}, {2, 2}, {0, 2}, {1, 1}}, false, false},
		{spots{{1, 1}, {2, 0}, {2, 2}, {1, 1}, {0, 2}, {0, 0}}, false, false},
		// Two edges lie on one line, with and without a common part.
		{spots{{0, 0}, {6, 0}, {6, 2}, {4, 2}, {4, 1}, {2, 1}, {2, 2}, {0, 2}}, true, false},
		{spots{{0, 0}, {6, 0}, {6, 2}, {3, 2}, {3, 1}, {2, 1}, {2, 2}, {4, 2}, {4, 3}, {0, 3}}, false, false},
		{spots{{0, 0}, {6, 0}, {6, 2}, {3, 0}, {2, 0}, {0, 2}}, false, false},
		// The ring turns left at each vertex, and goes round twice.
		{star(), false, false},
		{twice(square), false, false},
		{twice(spots{{0, 0}, {1, 0}, {0, 1}}), false, false},
	}
}

// P9.4: Simple and Convex by hand, in all rotations, and Simple of the reverse and of the images under turns of the plane
func TestShapeExamples(t *testing.T) {
	for _, c := range shapes() {
		for i := range c.l {
			l := c.l.rotated(i)
			for range 4 {
				for j, p := range l {
					l[j] = spot{-p[1], p[0]}
				}
				simple, err := ring.Simple(l.ring())
				checkIs(t, "Simple", l.ring(), simple, err, c.simple)
				convex, err := ring.Convex(l.ring())
				checkIs(t, "Convex", l.ring(), convex, err, c.convex)
				reverse := slices.Clone(l)
				slices.Reverse(reverse)
				simple, err = ring.Simple(reverse.ring())
				checkIs(t, "Simple", reverse.ring(), simple, err, c.simple)
			}
		}
	}
	turns, err := ring.Turns(ringOf("(0,0)", "(1,0)", "(2,0)", "(1,1)", "(2,2)", "(-1/2,2)"))
	checkTurns(t, nil, turns, err, []int{1, 0, 1, -1, 1, 1})
}

// P9.4: Simple of rings with the greatest number of vertices, with and without one vertex that touches an edge or lies beyond it
func TestSimpleLimit(t *testing.T) {
	l := comb(api.MaxVertices)
	check := func(want bool) {
		t.Helper()
		r := l.ring()
		simple, err := ring.Simple(r)
		checkIs(t, "Simple", r, simple, err, want)
	}
	check(true)
	slices.Reverse(l)
	check(true)
	slices.Reverse(l)
	for _, i := range []int{2, 1500, api.MaxVertices - 8} {
		root, tip := l[i], l[i+1]
		for _, x := range []int64{-1, -2} {
			l[i] = spot{x, root[1]}
			check(false)
		}
		l[i], l[i+1] = root, tip.plus(spot{0, 4})
		check(false)
		l[i+1] = tip
	}
	check(true)
}

// P9.4: Convex of rings with the greatest number of vertices
func TestConvexLimit(t *testing.T) {
	l := polygon(api.MaxVertices)
	check := func(l spots, want bool) {
		t.Helper()
		convex, err := ring.Convex(l.ring())
		checkIs(t, "Convex", l.ring(), convex, err, want)
	}
	check(l, true)
	check(l.rotated(1000), true)
	check(twice(polygon(api.MaxVertices/2)), false)
	slices.Reverse(l)
	check(l, false)
	slices.Reverse(l)
	l[2000] = l[1999].plus(l[2001].minus(l[2000]))
	check(l, false)
}

// Consequences: a convex ring is simple and has a positive area, and all its turns are 1.
func TestConvexConsequences(t *testing.T) {
	few(func(l spots) {
		if convex, _ := ring.Convex(l.ring()); !convex {
			return
		}
		simple, err := ring.Simple(l.ring())
		checkIs(t, "Simple", l.ring(), simple, err, true)
		area, err := ring.Area(l.ring())
		checkIs(t, "sign of the area", l.ring(), rational.Sign(area), err, 1)
		turns, err := ring.Turns(l.ring())
		checkTurns(t, l.ring(), turns, err, slices.Repeat([]int{1}, len(l)))
	})
}
