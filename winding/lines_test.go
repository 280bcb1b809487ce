package winding_test

import (
	"slices"
	"testing"

	"bspregion/api"
	"bspregion/line"
	"bspregion/winding"
)

// P10.2: Lines of all small rings
func TestLinesFew(t *testing.T) {
	few(func(s system) {
		got, err := winding.Lines(s.rings())
		checkLines(t, s.rings(), got, err, s.lines())
	})
}

// P10.2: Lines of lists of rings
func TestLinesMany(t *testing.T) {
	many(func(s system) {
		got, err := winding.Lines(s.rings())
		checkLines(t, s.rings(), got, err, s.lines())
	})
}

// through reports whether an edge of the rings lies on l.
func through(rings []api.Ring, l api.Line) bool {
	for _, r := range rings {
		for i, v := range r {
			if line.Side(l, v) == 0 && line.Side(l, r[(i+1)%len(r)]) == 0 {
				return true
			}
		}
	}
	return false
}

// P10.2: Lines of rings whose coordinates have many digits: each edge lies on one of the lines, each line has an edge, and they are in canonical orientation and ascend.
func TestLinesLong(t *testing.T) {
	long(func(s system, rings []api.Ring, m mapping) {
		list, err := winding.Lines(rings)
		if err != nil || len(list) != len(s.lines()) {
			t.Fatal(show(rings), showLines(list), err)
		}
		for i, l := range list {
			if _, reversed := line.Canon(l); reversed || !line.Valid(l) || !through(rings, l) || i > 0 && line.Compare(list[i-1], l) >= 0 {
				t.Fatal(show(rings), showLines(list), i)
			}
		}
	})
}

// P10.2: Lines by hand
func TestLinesExamples(t *testing.T) {
	full := square().ring()
	axes := []api.Line{lineOf(0, 1, -2), lineOf(0, 1, 0), lineOf(1, 0, -2), lineOf(1, 0, 0)}
	for _, c := range []struct {
		rings []api.Ring
		want  []api.Line
	}{
		{nil, nil},
		{[]api.Ring{full}, axes},
		{[]api.Ring{full, full, square().reversed().ring()}, axes},
		{[]api.Ring{full, ringOf("(2,2)", "(4,2)", "(4,0)", "(2,0)")}, slices.Insert(slices.Clone(axes), 2, lineOf(1, 0, -4))},
		{[]api.Ring{ringOf("(0,0)", "(1,0)", "(2,0)")}, axes[1:2]},
		{[]api.Ring{ringOf("(0,0)", "(1/2,0)", "(0,1/3)")}, []api.Line{lineOf(0, 1, 0), lineOf(1, 0, 0), lineOf(2, 3, -1)}},
		{[]api.Ring{ringOf("(0,0)", "(1,-1)", "(1,1)")}, []api.Line{lineOf(1, -1, 0), lineOf(1, 0, -1), lineOf(1, 1, 0)}},
	} {
		got, err := winding.Lines(c.rings)
		checkLines(t, c.rings, got, err, c.want)
	}
}

// P10.2: Lines of rings of the greatest permitted size
func TestLinesLimits(t *testing.T) {
	s := system{spiral(api.MaxVertices / 4)}
	for len(s) < 4 {
		s = append(s, s[0].reversed())
	}
	got, err := winding.Lines(s.rings())
	checkLines(t, s.rings()[:1], got, err, s.lines())
	var stairs system
	for i := range int64(api.MaxRings) {
		stairs = append(stairs, spots{{i, 0}, {i + 1, i}, {-i, 5}})
	}
	got, err = winding.Lines(stairs.rings())
	checkLines(t, stairs.rings(), got, err, stairs.lines())
}

// The errors of P10.2
func TestLinesErrors(t *testing.T) {
	for _, c := range badLists() {
		list, err := winding.Lines(c.rings)
		checkKind(t, "Lines", c.rings, err, c.kind)
		if len(list) > 0 {
			t.Fatal("Lines with an error:", showLines(list))
		}
	}
}
