package ring_test

import (
	"slices"
	"testing"

	"bspregion/api"
	"bspregion/ring"
)

// checkCanon examines Canon of l.
func checkCanon(t *testing.T, l spots) {
	t.Helper()
	got, err := ring.Canon(l.ring())
	checkRing(t, "Canon of"+show(l.ring()), got, err, l.canon().ring())
}

// P9.3: Canon of all rings of few different vertices, where many rotations begin in the same way
func TestCanonWords(t *testing.T) {
	for n := 3; n <= 8; n++ {
		words(spots{{0, 0}, {0, 1}, {1, 0}}, n, func(l spots) {
			if l.valid() {
				checkCanon(t, l)
			}
		})
	}
	words(spots{{0, 0}, {0, 1}, {1, 0}, {1, -1}}, 6, func(l spots) {
		if l.valid() {
			checkCanon(t, l)
		}
	})
}

// P9.3: Canon of rings of many vertices, and of rings whose beginning comes again and again
func TestCanonLong(t *testing.T) {
	checkCanon(t, comb(600).rotated(300))
	word := spots{{0, 0}, {0, 1}, {1, 0}}
	for _, l := range []spots{
		slices.Repeat(word, 200), append(slices.Repeat(word, 200), spot{2, 0}), append(slices.Repeat(word, 200), spot{0, 0}, spot{0, 2}),
		slices.Concat(slices.Repeat(word, 100), spots{{1, 1}}, slices.Repeat(word, 101)), slices.Concat(slices.Repeat(word, 100), spots{{0, 1}}, slices.Repeat(word, 101)),
	} {
		for _, i := range []int{0, 1, 2, 3, 300, len(l) - 1} {
			checkCanon(t, l.rotated(i))
		}
	}
	l := append(slices.Repeat(spots{{0, 0}, {0, 1}}, api.MaxVertices/2-1), spot{0, 0}, spot{1, 0})
	got, err := ring.Canon(l.rotated(api.MaxVertices - 3).ring())
	checkRing(t, "Canon", got, err, l.ring())
}

// P9.3: vertices are compared by point.Compare, also if they have many digits. The maps that do not lean keep the order.
func TestCanonMapped(t *testing.T) {
	long(func(l spots, r api.Ring, m mapping) {
		if m.b == "0" {
			got, err := ring.Canon(r)
			checkRing(t, "Canon", got, err, m.of(l.canon()))
		}
	})
	for _, c := range []struct{ r, want api.Ring }{
		{ringOf("(2,0)", "(0,2)", "(0,0)"), ringOf("(0,0)", "(2,0)", "(0,2)")},
		{ringOf("(1/2,0)", "(1/3,2)", "(5,0)"), ringOf("(1/3,2)", "(5,0)", "(1/2,0)")},
		{ringOf("(1/2,0)", "(1/3,2)", "(1/3,-"+far+")"), ringOf("(1/3,-"+far+")", "(1/2,0)", "(1/3,2)")},
		{ringOf("(0,0)", "(0,3)", "(0,0)", "(0,2)"), ringOf("(0,0)", "(0,2)", "(0,0)", "(0,3)")},
	} {
		got, err := ring.Canon(c.r)
		checkRing(t, "Canon", got, err, c.want)
	}
}

// Consequences: Canon of rings that are equal up to rotation is the same.
func TestCanonRotations(t *testing.T) {
	long(func(l spots, r api.Ring, m mapping) {
		want, _ := ring.Canon(r)
		for i := range r {
			got, err := ring.Canon(slices.Concat(r[i:], r[:i]))
			checkRing(t, "Canon of a rotation", got, err, want)
		}
	})
}

// P9.3: Compare of rings with common beginnings
func TestCompare(t *testing.T) {
	var list []spots
	for n := 3; n <= 5; n++ {
		words(spots{{0, 0}, {0, 1}, {1, 0}}, n, func(l spots) {
			if l.valid() {
				list = append(list, l)
			}
		})
	}
	for _, l := range list {
		for _, m := range list {
			order, err := ring.Compare(l.ring(), m.ring())
			checkIs(t, "Compare with"+show(m.ring())+", of", l.ring(), order, err, l.compare(m))
		}
	}
}

// P9.3: Compare by hand
func TestCompareExamples(t *testing.T) {
	list := []api.Ring{
		ringOf("(-"+far+",7)", "(0,0)", "(1,0)"),
		ringOf("(-1/2,7)", "(0,0)", "(1,0)"),
		ringOf("(-1/3,7)", "(0,-1/"+far+")", "(1,0)"),
		ringOf("(-1/3,7)", "(0,0)", "(1,0)"),
		ringOf("(-1/3,7)", "(0,0)", "(1,0)", "(-5,0)"),
		ringOf("(-1/3,7)", "(0,0)", "(1,0)", "(-5,0)", "(-6,0)"),
		ringOf("(-1/3,7)", "(0,0)", "(1,1/"+far+")"),
		ringOf("(-1/3,7)", "(0,1)", "(1,0)"),
		ringOf("(1/4,7)", "(0,0)", "(1,0)"),
		comb(api.MaxVertices).rotated(2).ring(),
		comb(api.MaxVertices).rotated(4).ring(),
	}
	for i, r := range list {
		for j, s := range list {
			order, err := ring.Compare(r, s)
			want := 0
			if i != j {
				want = 1
			}
			if i < j {
				want = -1
			}
			checkIs(t, "Compare with"+show(s)+", of", r, order, err, want)
		}
	}
}
