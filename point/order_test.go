package point_test

import (
	"cmp"
	"math/big"
	"testing"

	"bspregion/api"
	"bspregion/point"
)

// P4.3: Compare
func TestCompare(t *testing.T) {
	for _, c := range []struct {
		p, q api.Point
		want int
	}{
		{at("1", "5"), at("2", "-5"), -1},
		{at("2", "-5"), at("1", "5"), 1},
		{at("1", "-5"), at("1", "5"), -1},
		{at("1", "5"), at("1", "-5"), 1},
		{at("1", "5"), at("1", "5"), 0},
		{at("1/3", "0"), at("1/2", "0"), -1},
		{at("0", "-1/3"), at("0", "-1/2"), 1},
		{api.Point{}, api.Point{X: raw(7, 0), Y: raw(0, 3)}, 0},
		{api.Point{X: raw(7, 0), Y: raw(7, 0)}, at("0", "1/9"), -1},
		{api.Point{X: raw(2, 4), Y: raw(6, 4)}, at("1/2", "3/2"), 0},
	} {
		checkSign(t, "Compare", point.Compare(c.p, c.q), c.want)
	}
	pairs(func(p, q api.Point) {
		u, v := toPair(p), toPair(q)
		checkSign(t, "Compare", point.Compare(p, q), cmp.Or(u.x.Cmp(v.x), u.y.Cmp(v.y)))
	})
}

// directions are vectors in the order of Angle; those of one row have the same direction.
func directions() [][]api.Point {
	const far, farther = "100000000000000000000", "100000000000000000001"
	return [][]api.Point{
		{{}, at("0", "0"), {X: raw(7, 0), Y: raw(0, 3)}},
		{at("1", "0"), at(far, "0"), at("1/7", "0"), {X: raw(2, 4), Y: raw(7, 0)}},
		{at(farther, "1")},
		{at(far, "1"), at("1", "1/"+far)},
		{at("2", "1"), at("1", "1/2")},
		{at("1", "1"), at("1/3", "1/3"), {X: raw(2, 6), Y: raw(3, 9)}},
		{at("1", "2"), at("5/2", "5")},
		{at("0", "1"), at("0", far), {X: raw(7, 0), Y: raw(4, 6)}},
		{at("-1", "2"), at("-1/2", "1")},
		{at("-1", "1"), at("-7", "7")},
		{at("-2", "1"), at("-4/3", "2/3")},
		{at("-"+far, "1")},
		{at("-1", "0"), at("-1/"+far, "0"), {X: raw(-4, 6), Y: raw(0, 6)}},
		{at("-"+far, "-1")},
		{at("-2", "-1"), at("-1", "-1/2")},
		{at("-1", "-1"), at("-"+far, "-"+far)},
		{at("-1", "-2"), at("-1/4", "-1/2")},
		{at("0", "-1"), at("0", "-9/2"), {X: raw(-7, 0), Y: raw(-4, 6)}},
		{at("1", "-2"), at("3", "-6")},
		{at("1", "-1"), at("1/2", "-1/2")},
		{at("2", "-1"), at("1/5", "-1/10")},
		{at(far, "-1"), at("1", "-1/"+far)},
	}
}

// P4.3: Angle
func TestAngle(t *testing.T) {
	for i, row := range directions() {
		for j, column := range directions() {
			for _, u := range row {
				for _, v := range column {
					checkSign(t, "Angle of "+point.Format(u)+" and "+point.Format(v), point.Angle(u, v), cmp.Compare(i, j))
				}
			}
		}
	}
}

// Consequences: Angle is 0 exactly if one vector is a positive multiple of the other one, and changes its sign if they are exchanged.
func TestAngleSamples(t *testing.T) {
	pairs(func(p, q api.Point) {
		u, v := toPair(p), toPair(q)
		got := point.Angle(p, q)
		want := u.cross(v).Sign() == 0 && u.dot(v).Sign() > 0 || u.dot(u).Sign() == 0 && v.dot(v).Sign() == 0
		if (got == 0) != want || point.Same(point.Primitive(p), point.Primitive(q)) != want {
			t.Fatal(p, q, got)
		}
		checkSign(t, "Angle", point.Angle(q, p), -got)
	})
}

// between reports whether p is a + s * (b - a) for some s from 0 to 1.
func between(a, b, p pair) bool {
	whole, part := b.sub(a), p.sub(a)
	if a.is(b) {
		return p.is(a)
	}
	s := new(big.Rat).Quo(part.dot(whole), whole.dot(whole))
	return s.Sign() >= 0 && s.Cmp(big.NewRat(1, 1)) <= 0 && a.add(whole.scale(s)).is(p)
}

// P4.4: Between
func TestBetween(t *testing.T) {
	triples(func(a, b, p api.Point) {
		if got := point.Between(a, b, p); got != between(toPair(a), toPair(b), toPair(p)) {
			t.Fatal(point.Format(a), point.Format(b), point.Format(p), got)
		}
	})
	a, b := at("-1", "1/2"), api.Point{X: raw(4, 4), Y: raw(-2, 4)}
	for _, p := range grid(4) {
		if got := point.Between(a, b, p); got != between(toPair(a), toPair(b), toPair(p)) {
			t.Fatal(point.Format(p), got)
		}
	}
}

// P4.4: segments by hand: their ends, points of their lines beyond them, points beside them, and segments of one point
func TestBetweenExamples(t *testing.T) {
	for _, c := range []struct {
		a, b, p api.Point
		want    bool
	}{
		{at("0", "0"), at("2", "2"), at("0", "0"), true},
		{at("0", "0"), at("2", "2"), at("2", "2"), true},
		{at("0", "0"), at("2", "2"), at("1/3", "1/3"), true},
		{at("2", "2"), at("0", "0"), at("1/3", "1/3"), true},
		{at("0", "0"), at("2", "2"), at("3", "3"), false},
		{at("0", "0"), at("2", "2"), at("-1/9", "-1/9"), false},
		{at("0", "0"), at("2", "2"), at("1", "10000000000000000001/10000000000000000000"), false},
		{at("0", "0"), at("2", "2"), at("1", "0"), false},
		{at("1", "3"), at("1", "-3"), at("1", "0"), true},
		{at("1", "3"), at("1", "-3"), at("1", "-4"), false},
		{at("1", "3"), at("1", "-3"), at("2", "0"), false},
		{at("3", "1"), at("-3", "1"), at("0", "1"), true},
		{at("3", "1"), at("-3", "1"), at("4", "1"), false},
		{at("1", "1"), api.Point{X: raw(2, 2), Y: raw(3, 3)}, api.Point{X: raw(4, 4), Y: raw(5, 5)}, true},
		{at("1", "1"), at("1", "1"), at("1", "2"), false},
		{at("1", "1"), at("1", "1"), at("2", "1"), false},
		{api.Point{}, at("2", "0"), api.Point{X: raw(2, 2), Y: raw(7, 0)}, true},
	} {
		if got := point.Between(c.a, c.b, c.p); got != c.want {
			t.Error(point.Format(c.a), point.Format(c.b), point.Format(c.p), got)
		}
	}
}
