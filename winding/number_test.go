package winding_test

import (
	"math"
	"slices"
	"testing"

	"bspregion/api"
	"bspregion/point"
	"bspregion/ring"
	"bspregion/winding"
)

// checkNumber examines On and Number of rings at a point q, which is to them what p is to s.
func checkNumber(t *testing.T, s system, p spot, rings []api.Ring, q api.Point) {
	t.Helper()
	on, err := winding.On(rings, q)
	checkIs(t, "On", rings, q, on, err, s.on(p))
	n, err := winding.Number(rings, q)
	if s.on(p) {
		checkKind(t, "Number", rings, err, api.ErrRange)
		checkIs(t, "Number with an error", rings, q, n, nil, 0)
		return
	}
	checkIs(t, "Number", rings, q, n, err, s.number(p))
	checkIs(t, "Number of rounds", rings, q, n, nil, s.rounds(p))
}

// P10.1: On and Number of all small rings, at all vertices, at points beside them, on the heights of vertices and between them
func TestNumberFew(t *testing.T) {
	few(func(s system) {
		for _, p := range append(frame(0, 4), spot{-1, 2}, spot{5, 0}, spot{1, -1}, spot{2, 5}) {
			checkNumber(t, s, p, s.rings(), p.point())
		}
	})
}

// P10.1: On and Number of lists of rings
func TestNumberMany(t *testing.T) {
	many(func(s system) {
		for _, p := range frame(-1, 9) {
			checkNumber(t, s, p, s.rings(), p.point())
		}
	})
}

// P10.1: On and Number of rings whose coordinates have many digits
func TestNumberLong(t *testing.T) {
	long(func(s system, rings []api.Ring, m mapping) {
		for _, p := range frame(0, 8) {
			checkNumber(t, s, p, rings, m.of(p.point()))
		}
	})
}

// P10.1: On and Number by hand
func TestNumberExamples(t *testing.T) {
	full := square().ring()
	back := square().reversed().ring()
	star := ringOf("(0,10)", "(-6,-8)", "(10,3)", "(-10,3)", "(6,-8)")
	thin := ringOf("(0,0)", "("+far+",1)", "("+far+",2)")
	for _, c := range []struct {
		rings []api.Ring
		p     string
		on    bool
		n     int
	}{
		{nil, "(0,0)", false, 0},
		{[]api.Ring{full}, "(1,1)", false, 1},
		{[]api.Ring{full, full}, "(1,1)", false, 2},
		{[]api.Ring{full, back}, "(1,1)", false, 0},
		{[]api.Ring{back, back}, "(1/3,5/3)", false, -2},
		{[]api.Ring{full}, "(1,0)", true, 0},
		{[]api.Ring{full}, "(2,2)", true, 0},
		{[]api.Ring{full, back}, "(0,1/2)", true, 0},
		{[]api.Ring{full}, "(-1,0)", false, 0},
		{[]api.Ring{full}, "(-1,2)", false, 0},
		{[]api.Ring{full}, "(3,0)", false, 0},
		{[]api.Ring{full}, "(1,-1)", false, 0},
		{[]api.Ring{full}, "(1,-1/" + far + ")", false, 0},
		{[]api.Ring{full}, "(1,1/" + far + ")", false, 1},
		{[]api.Ring{star}, "(0,0)", false, 2},
		{[]api.Ring{star}, "(0,8)", false, 1},
		{[]api.Ring{star, full}, "(1/2,1)", false, 3},
		{[]api.Ring{star}, "(5,5)", false, 0},
		{[]api.Ring{thin}, "(1,1/" + far + ")", true, 0},
		{[]api.Ring{thin}, "(2,3/" + far + ")", false, 1},
		{[]api.Ring{thin}, "(2,1/" + far + ")", false, 0},
	} {
		p := at(c.p)
		on, err := winding.On(c.rings, p)
		checkIs(t, "On", c.rings, p, on, err, c.on)
		n, err := winding.Number(c.rings, p)
		checkIs(t, "Number", c.rings, p, n, nil, c.n)
		if c.on {
			checkKind(t, "Number", c.rings, err, api.ErrRange)
		} else if err != nil {
			t.Fatal(c.p, err)
		}
	}
}

// P10.1: Accepts of fill rules and of other numbers
func TestAccepts(t *testing.T) {
	for _, c := range []struct {
		fill int
		list []int
		want bool
	}{
		{api.EvenOdd, []int{1, -1, 3, -3, 77, math.MaxInt, math.MinInt + 1}, true},
		{api.EvenOdd, []int{0, 2, -2, 78, math.MaxInt - 1, math.MinInt}, false},
		{api.NonZero, []int{1, -1, 2, -2, 78, math.MaxInt, math.MinInt}, true},
		{api.NonZero, []int{0}, false},
	} {
		for _, n := range c.list {
			if got := winding.Accepts(c.fill, n); got != c.want {
				t.Error(c.fill, n, got)
			}
		}
	}
	for _, fill := range otherFills() {
		for n := -3; n <= 3; n++ {
			if winding.Accepts(fill, n) {
				t.Error(fill, n)
			}
		}
	}
}

// otherFills are numbers that are no fill rules.
func otherFills() []int {
	return []int{0, 3, 4, -1, -2, 257, math.MaxInt, math.MinInt, math.MinInt + 1}
}

// P10.1: lists and rings of the greatest permitted size
func TestNumberLimits(t *testing.T) {
	l := spiral(api.MaxVertices / 4)
	rings := slices.Repeat([]api.Ring{l.ring()}, 8)
	for i := range 4 {
		rings[i] = l.reversed().ring()
	}
	for i, want := range []int{-1024, -2048, -3072, -4096, -3072, -2048, -1024, 0} {
		n, err := winding.Number(rings[:i+1], api.Point{})
		checkIs(t, "Number", nil, api.Point{}, n, err, want)
	}
	rings = slices.Repeat([]api.Ring{square().ring()}, api.MaxRings)
	n, err := winding.Number(rings, at("(1,1)"))
	checkIs(t, "Number", rings, at("(1,1)"), n, err, api.MaxRings)
	on, err := winding.On(rings, at("(1,1)"))
	checkIs(t, "On", rings, at("(1,1)"), on, err, false)
	rings[api.MaxRings-1] = ringOf("(0,0)", "(2,2)", "(0,2)")
	on, err = winding.On(rings, at("(1,1)"))
	checkIs(t, "On", rings, at("(1,1)"), on, err, true)
}

// Consequences: the winding number is the sum of those of the single rings, reversing all rings negates it, and the first vertices do not matter.
func TestNumberSums(t *testing.T) {
	many(func(s system) {
		for _, p := range frame(0, 8) {
			if s.on(p) {
				continue
			}
			sum := 0
			var back, rotated []api.Ring
			for i, r := range s.rings() {
				n, err := winding.Number([]api.Ring{r}, p.point())
				checkIs(t, "Number of a ring", []api.Ring{r}, p.point(), n, err, system{s[i]}.number(p))
				sum += n
				reverse, _ := ring.Reverse(r)
				back = append(back, reverse)
				rotated = append(rotated, slices.Concat(r[2:], r[:2]))
			}
			n, err := winding.Number(s.rings(), p.point())
			checkIs(t, "Number", s.rings(), p.point(), n, err, sum)
			n, err = winding.Number(back, p.point())
			checkIs(t, "Number", back, p.point(), n, err, -sum)
			n, err = winding.Number(rotated, p.point())
			checkIs(t, "Number", rotated, p.point(), n, err, sum)
		}
	})
}

// Consequences: the winding number is 0 far away.
func TestNumberFar(t *testing.T) {
	many(func(s system) {
		for _, text := range []string{"(" + far + ",4)", "(-" + far + ",4)", "(-1/" + far + ",4)", "(4,-" + far + ")", "(3,8000000001/1000000000)"} {
			n, err := winding.Number(s.rings(), at(text))
			checkIs(t, "Number", s.rings(), at(text), n, err, 0)
		}
	})
}

// Rule 3: points need not be in normal form.
func TestNumberRaw(t *testing.T) {
	lists := [][]api.Ring{{square().ring()}, {ringOf("(-1/2,-1)", "(1,-1)", "(1,1)", "(-1/2,1)")}, {triangle().reversed().ring(), square().ring()}}
	for _, rings := range lists {
		for _, p := range somePoints() {
			on, err := winding.On(rings, p)
			wantOn, _ := winding.On(rings, point.Norm(p))
			checkIs(t, "On", rings, p, on, err, wantOn)
			n, err := winding.Number(rings, p)
			want, wantErr := winding.Number(rings, point.Norm(p))
			checkIs(t, "Number", rings, p, n, nil, want)
			checkKind(t, "Number", rings, err, wantErr)
		}
	}
	n, err := winding.Number(lists[1], api.Point{X: raw(3, 6), Y: raw(7, 0)})
	checkIs(t, "Number", lists[1], api.Point{}, n, err, 1)
	on, err := winding.On(lists[1], api.Point{X: raw(-2, 4, 0), Y: raw(7, 0)})
	checkIs(t, "On", lists[1], api.Point{}, on, err, true)
}

// The errors of P10.1: On and Number return them before that for a point on an edge, and zero values.
func TestNumberErrors(t *testing.T) {
	for _, c := range badLists() {
		for _, p := range []api.Point{{}, at("(1,1)"), at("(7,7)")} {
			on, err := winding.On(c.rings, p)
			checkKind(t, "On", c.rings, err, c.kind)
			checkIs(t, "On with an error", c.rings, p, on, nil, false)
			n, err := winding.Number(c.rings, p)
			checkKind(t, "Number", c.rings, err, c.kind)
			checkIs(t, "Number with an error", c.rings, p, n, nil, 0)
		}
	}
}
