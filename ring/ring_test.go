package ring_test

import (
	"math/big"
	"slices"
	"testing"

	"bspregion/api"
	"bspregion/fragment"
	"bspregion/point"
	"bspregion/rational"
	"bspregion/ring"
)

// P9.1: Check of all short lists of three points on a line and one beside it
func TestCheckWords(t *testing.T) {
	letters := spots{{0, 0}, {1, 0}, {2, 0}, {0, 1}}
	for n := range 7 {
		words(letters, n, func(l spots) {
			var want error
			if !l.valid() {
				want = api.ErrRing
			}
			checkKind(t, "Check", l.ring(), ring.Check(l.ring()), want)
		})
	}
}

// P9.1: Check of other valid rings
func TestCheckValid(t *testing.T) {
	long(func(l spots, r api.Ring, m mapping) {
		checkKind(t, "Check", l.ring(), ring.Check(l.ring()), nil)
		checkKind(t, "Check", r, ring.Check(r), nil)
	})
	rest := slices.Repeat(spots{{0, 0}, {1, 0}}, api.MaxVertices/2-1)
	for _, l := range []spots{comb(api.MaxVertices), append(rest, spot{0, 0}, spot{0, 1}), append(spots{{5, 5}, {1, 0}}, rest...), {{0, 0}, {1, 1}, {1, 0}, {0, 1}}} {
		checkKind(t, "Check", l.ring(), ring.Check(l.ring()), nil)
	}
}

// P9.1: Check of rings that are not valid, and of nearly two vertices
func TestCheckBad(t *testing.T) {
	for _, c := range badRings() {
		checkKind(t, "Check", c.r, ring.Check(c.r), c.kind)
	}
	for _, l := range []spots{slices.Repeat(spots{{0, 0}, {1, 0}}, api.MaxVertices/2), append(comb(api.MaxVertices-2), spot{0, -1}), append(comb(api.MaxVertices-2), spot{})} {
		checkKind(t, "Check", l.ring(), ring.Check(l.ring()), api.ErrRing)
	}
}

// P9.1: all other functions return the error of Check and zero values.
func TestErrors(t *testing.T) {
	for _, c := range badRings() {
		edges, err := ring.Edges(c.r)
		checkKind(t, "Edges", c.r, err, c.kind)
		area, err := ring.Area(c.r)
		checkKind(t, "Area", c.r, err, c.kind)
		checkRat(t, "Area", c.r, area, nil, api.Rat{})
		reverse, err := ring.Reverse(c.r)
		checkKind(t, "Reverse", c.r, err, c.kind)
		canon, err := ring.Canon(c.r)
		checkKind(t, "Canon", c.r, err, c.kind)
		simple, err := ring.Simple(c.r)
		checkKind(t, "Simple", c.r, err, c.kind)
		convex, err := ring.Convex(c.r)
		checkKind(t, "Convex", c.r, err, c.kind)
		turns, err := ring.Turns(c.r)
		checkKind(t, "Turns", c.r, err, c.kind)
		if len(edges) > 0 || len(reverse) > 0 || len(canon) > 0 || len(turns) > 0 || simple || convex {
			t.Fatal(show(c.r), edges, show(reverse), show(canon), turns, simple, convex)
		}
	}
}

// P9.1: Compare returns the error of Check for the first ring, then that for the second one.
func TestCompareErrors(t *testing.T) {
	good := spots{{0, 0}, {1, 0}, {0, 1}}.ring()
	for _, c := range badRings() {
		for _, d := range append(badRings(), bad{good, nil}) {
			order, err := ring.Compare(c.r, d.r)
			checkKind(t, "Compare", c.r, err, c.kind)
			checkIs(t, "Compare", c.r, order, nil, 0)
		}
		order, err := ring.Compare(good, c.r)
		checkKind(t, "Compare", c.r, err, c.kind)
		checkIs(t, "Compare", c.r, order, nil, 0)
	}
}

// checkEdges demands the segments from each vertex of r to the next one.
func checkEdges(t *testing.T, r api.Ring) {
	t.Helper()
	list, err := ring.Edges(r)
	checkIs(t, "number of edges", r, len(list), err, len(r))
	for i, f := range list {
		start, _ := fragment.Start(f)
		end, _ := fragment.End(f)
		if !samePoint(start, r[i]) || !samePoint(end, r[(i+1)%len(r)]) || !fragment.Valid(f) {
			t.Fatal(show(r), i, point.Format(start), point.Format(end))
		}
	}
}

// P9.2: Edges
func TestEdges(t *testing.T) {
	count := 0
	few(func(l spots) {
		if count++; count%10 == 0 {
			checkEdges(t, l.ring())
		}
	})
	long(func(l spots, r api.Ring, m mapping) { checkEdges(t, r) })
	checkEdges(t, comb(api.MaxVertices).ring())
}

// half is a / 2.
func half(a int64) api.Rat {
	return rational.Middle(rational.FromInt(a), rational.FromInt(0))
}

// P9.2: Area of rings with small coordinates
func TestArea(t *testing.T) {
	check := func(l spots) {
		area, err := ring.Area(l.ring())
		checkRat(t, "Area", l.ring(), area, err, half(l.doubleArea()))
	}
	few(check)
	many(check)
	check(comb(api.MaxVertices))
	check(polygon(api.MaxVertices))
	check(twice(polygon(api.MaxVertices / 2)))
}

// P9.2: Area by hand
func TestAreaExamples(t *testing.T) {
	for _, c := range []struct {
		r    api.Ring
		want string
	}{
		{ringOf("(0,0)", "(2,0)", "(0,2)"), "2"},
		{ringOf("(0,0)", "(0,2)", "(2,0)"), "-2"},
		{ringOf("(0,0)", "(1,1)", "(1,0)", "(0,1)"), "0"},
		{ringOf("(0,0)", "(2,0)", "(2,2)", "(0,2)"), "4"},
		{ringOf("(0,0)", "(2,0)", "(2,2)", "(0,2)", "(0,0)", "(2,0)", "(2,2)", "(0,2)"), "8"},
		{ringOf("(5,7)", "(6,7)", "(6,8)"), "1/2"},
		{ringOf("(0,0)", "(1,0)", "(2,0)"), "0"},
		{ringOf("(0,0)", "(1/3,0)", "(0,1/5)"), "1/30"},
	} {
		area, err := ring.Area(c.r)
		checkRat(t, "Area", c.r, area, err, number(c.want))
	}
}

// bigArea is the area of r, computed with package big.
func bigArea(r api.Ring) *big.Rat {
	sum := new(big.Rat)
	for i, v := range r {
		w := r[(i+1)%len(r)]
		sum.Add(sum, new(big.Rat).Mul(bigOf(v.X), bigOf(w.Y)))
		sum.Sub(sum, new(big.Rat).Mul(bigOf(v.Y), bigOf(w.X)))
	}
	return sum.Quo(sum, big.NewRat(2, 1))
}

// P9.2: Area of rings whose coordinates have many digits, and many different denominators
func TestAreaLong(t *testing.T) {
	check := func(r api.Ring) {
		area, err := ring.Area(r)
		if err != nil || bigOf(area).Cmp(bigArea(r)) != 0 || !rational.Normal(area) {
			t.Fatal(show(r), rational.Format(area), err)
		}
	}
	long(func(l spots, r api.Ring, m mapping) { check(r) })
	r := comb(600).ring()
	for i := range r {
		small, _ := rational.Div(rational.FromInt(1), rational.FromInt(int64(i)+18446744073))
		r[i] = point.Add(r[i], api.Point{X: small, Y: rational.Mul(small, small)})
	}
	check(r)
}

// P9.2: Reverse
func TestReverse(t *testing.T) {
	few(func(l spots) {
		got, err := ring.Reverse(l.ring())
		slices.Reverse(l[1:])
		checkRing(t, "Reverse", got, err, l.ring())
	})
	long(func(l spots, r api.Ring, m mapping) {
		got, err := ring.Reverse(r)
		slices.Reverse(r[1:])
		checkRing(t, "Reverse", got, err, r)
	})
	got, err := ring.Reverse(ringOf("(0,0)", "(2,0)", "(2,2)", "(0,1/2)"))
	checkRing(t, "Reverse", got, err, ringOf("(0,0)", "(0,1/2)", "(2,2)", "(2,0)"))
}

// Consequences: the area changes its sign under Reverse and does not change under rotation, and Reverse twice yields the ring.
func TestAreaConsequences(t *testing.T) {
	long(func(l spots, r api.Ring, m mapping) {
		area, _ := ring.Area(r)
		reverse, _ := ring.Reverse(r)
		other, err := ring.Area(reverse)
		checkRat(t, "Area of the reverse", r, other, err, rational.Neg(area))
		again, err := ring.Reverse(reverse)
		checkRing(t, "Reverse twice", again, err, r)
		for i := range r {
			rotated := slices.Concat(r[i:], r[:i])
			other, err = ring.Area(rotated)
			checkRat(t, "Area of a rotation", rotated, other, err, area)
		}
	})
}
