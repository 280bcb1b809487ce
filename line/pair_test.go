package line_test

import (
	"cmp"
	"testing"

	"bspregion/api"
	"bspregion/line"
	"bspregion/point"
)

// copyOf is l with other memory.
func copyOf(l api.Line) api.Line {
	return api.Line{A: whole(toBig(l.A).String()), B: whole(toBig(l.B).String()), C: whole(toBig(l.C).String())}
}

// P5.3: Same, Opposite and Parallel
func TestRelations(t *testing.T) {
	linePairs(func(l, m api.Line) {
		f, g := toForm(l), toForm(m)
		if got := line.Same(l, m); got != f.is(g) {
			t.Fatal("Same", l, m, got)
		}
		if got := line.Opposite(l, m); got != f.is(g.negative()) {
			t.Fatal("Opposite", l, m, got)
		}
		if got := line.Parallel(l, m); got != (f.direction().cross(g.direction()).Sign() == 0) {
			t.Fatal("Parallel", l, m, got)
		}
	})
}

// P5.3: relations by hand
func TestRelationExamples(t *testing.T) {
	for _, c := range []struct {
		l, m                     api.Line
		same, opposite, parallel bool
	}{
		{ln("1", "2", "3"), ln("1", "2", "3"), true, false, true},
		{ln("1", "2", "3"), ln("-1", "-2", "-3"), false, true, true},
		{ln("1", "2", "3"), ln("1", "2", "4"), false, false, true},
		{ln("1", "2", "3"), ln("-1", "-2", "3"), false, false, true},
		{ln("1", "2", "1"), ln("2", "4", "1"), false, false, true},
		{ln("1", "2", "1"), ln("-2", "-4", "1"), false, false, true},
		{ln("1", "2", "3"), ln("2", "1", "3"), false, false, false},
		{ln("1", "2", "3"), ln("2", "-1", "3"), false, false, false},
		{ln("1", "0", "0"), ln("0", "1", "0"), false, false, false},
		{ln("1", "0", "0"), ln("-1", "0", "0"), false, true, true},
		{ln(far, farther, "1"), ln(far, farther, "1"), true, false, true},
		{ln(far, farther, "1"), ln(farther, far, "1"), false, false, false},
	} {
		if line.Same(c.l, c.m) != c.same || line.Opposite(c.l, c.m) != c.opposite || line.Parallel(c.l, c.m) != c.parallel {
			t.Error(c.l, c.m, line.Same(c.l, c.m), line.Opposite(c.l, c.m), line.Parallel(c.l, c.m))
		}
	}
}

// invalidPairs calls test with pairs of lines of which at least one is not valid, and which have the same numbers in many cases.
func invalidPairs(test func(l, m api.Line)) {
	for _, l := range invalidLines() {
		for _, m := range []api.Line{l, copyOf(l), ln("1", "2", "3"), ln("-1", "-2", "-3"), ln("0", "1", "0"), {}} {
			test(l, m)
			test(m, l)
		}
		negative := copyOf(l)
		for _, a := range []*api.Int{&negative.A, &negative.B, &negative.C} {
			a.Neg = !a.Neg && len(a.Abs) > 0
		}
		test(l, negative)
		test(negative, l)
	}
}

// P5.3, P5.4: relations, the order and the common point if a line is not valid
func TestInvalidPair(t *testing.T) {
	invalidPairs(func(l, m api.Line) {
		if line.Same(l, m) || line.Opposite(l, m) || line.Parallel(l, m) {
			t.Error(l, m, line.Same(l, m), line.Opposite(l, m), line.Parallel(l, m))
		}
		checkSign(t, "Compare", line.Compare(l, m), 0)
		p, ok := line.Meet(l, m)
		checkZero(t, "Meet", p)
		if ok {
			t.Error(l, m, "do not meet")
		}
	})
	for _, l := range invalidLines() {
		got, ok := line.Canon(l)
		checkZero(t, "Canon", got)
		if ok {
			t.Error(l, "has no canonical orientation")
		}
	}
}

// P5.3: Canon
func TestCanon(t *testing.T) {
	for _, l := range validLines() {
		f := toForm(l)
		want, reversed := f, cmp.Or(f[0].Sign(), f[1].Sign()) < 0
		if reversed {
			want = f.negative()
		}
		got, ok := line.Canon(l)
		checkLine(t, "Canon", got, want)
		if ok != reversed {
			t.Fatal(l, ok)
		}
		again, ok := line.Canon(got)
		checkLine(t, "Canon of Canon", again, want)
		if ok {
			t.Fatal(got, "is in canonical orientation")
		}
	}
}

// P5.3: canonical orientations by hand
func TestCanonExamples(t *testing.T) {
	for _, c := range []struct {
		l, want  api.Line
		reversed bool
	}{
		{ln("1", "-2", "-3"), ln("1", "-2", "-3"), false},
		{ln("-1", "2", "3"), ln("1", "-2", "-3"), true},
		{ln("0", "1", "-5"), ln("0", "1", "-5"), false},
		{ln("0", "-1", "5"), ln("0", "1", "-5"), true},
		{ln("1", "0", "0"), ln("1", "0", "0"), false},
		{ln("-1", "0", "0"), ln("1", "0", "0"), true},
		{ln("-1", far, farther), ln("1", "-"+far, "-"+farther), true},
	} {
		got, ok := line.Canon(c.l)
		checkLine(t, "Canon", got, toForm(c.want))
		if ok != c.reversed {
			t.Error(c.l, ok)
		}
	}
}

// P5.3: Compare
func TestCompare(t *testing.T) {
	linePairs(func(l, m api.Line) {
		f, g := toForm(l), toForm(m)
		checkSign(t, "Compare", line.Compare(l, m), cmp.Or(f[0].Cmp(g[0]), f[1].Cmp(g[1]), f[2].Cmp(g[2])))
	})
	ascending := []api.Line{
		ln("-"+far, "7", "9"), ln("-2", "5", "1"), ln("-1", "-1", "9"), ln("-1", "0", "-"+far), ln("-1", "0", "0"), ln("-1", "0", "3"),
		ln("0", "-1", "8"), ln("0", "1", "-7"), ln("0", "1", "0"), ln("0", "2", "-9"), ln("1", "-5", "2"), ln("1", "-5", "3"), ln("2", "-9", "-9"), ln(farther, "-8", "1"),
	}
	for i, l := range ascending {
		for j, m := range ascending {
			checkSign(t, "Compare", line.Compare(l, m), cmp.Compare(i, j))
		}
	}
}

// P5.4: Meet
func TestMeet(t *testing.T) {
	linePairs(func(l, m api.Line) {
		f, g := toForm(l), toForm(m)
		got, ok := line.Meet(l, m)
		if parallel := f.direction().cross(g.direction()).Sign() == 0; ok == parallel {
			t.Fatal(l, m, ok)
		}
		if !ok {
			checkZero(t, "Meet", got)
			return
		}
		if !point.Normal(got) || f.value(toPair(got)).Sign() != 0 || g.value(toPair(got)).Sign() != 0 {
			t.Fatal(l, m, got)
		}
		checkSign(t, "Side of Meet", line.Side(l, got), 0)
		checkSign(t, "Side of Meet", line.Side(m, got), 0)
	})
}

// P5.4: common points by hand
func TestMeetExamples(t *testing.T) {
	for _, c := range []struct {
		l, m api.Line
		want string
	}{
		{ln("1", "0", "-1"), ln("0", "1", "-2"), "(1,2)"},
		{ln("0", "1", "-2"), ln("1", "0", "-1"), "(1,2)"},
		{ln("-1", "0", "1"), ln("0", "1", "-2"), "(1,2)"},
		{ln("1", "1", "-2"), ln("1", "-1", "0"), "(1,1)"},
		{ln("2", "3", "0"), ln("5", "-7", "0"), "(0,0)"},
		{ln("2", "0", "1"), ln("0", "3", "-2"), "(-1/2,2/3)"},
		{ln("2", "3", "-1"), ln("3", "5", "7"), "(26,-17)"},
		{ln("1", "-1", "0"), ln(far, "-"+farther, "1"), "(1,1)"},
	} {
		got, ok := line.Meet(c.l, c.m)
		if !ok || point.Format(got) != c.want || !point.Normal(got) {
			t.Error(c.l, c.m, got, ok, "not", c.want)
		}
	}
	for _, m := range []api.Line{ln("1", "2", "3"), ln("-1", "-2", "-3"), ln("1", "2", "4"), ln("-2", "-4", "1")} {
		if got, ok := line.Meet(ln("1", "2", "3"), m); ok {
			t.Error(m, got)
		}
	}
}
