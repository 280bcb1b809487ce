package fragment_test

import (
	"slices"
	"testing"

	"bspregion/api"
	"bspregion/fragment"
	"bspregion/line"
	"bspregion/rational"
)

// checkJoin demands the fragments of want, in all digits, and no error.
func checkJoin(t *testing.T, l []api.Fragment, want ...api.Fragment) {
	t.Helper()
	got, err := fragment.Join(l)
	checkList(t, "Join", got, err, want...)
}

// gapsOf are the stretches of the gaps whose bit in the mask is set, as long as possible.
func gapsOf(mask int) []stretch {
	var list []stretch
	for i := range gaps {
		if mask>>i&1 == 0 {
			continue
		}
		if last := len(list) - 1; last >= 0 && list[last].last == i-1 {
			list[last].last = i
		} else {
			list = append(list, stretch{i, i})
		}
	}
	return list
}

// mask has the bits of the gaps of r.
func (r stretch) mask() int {
	return 1<<(r.last+1) - 1<<r.first
}

// onLine are the fragments of l with the gaps of a mask, joined.
func onLine(l api.Line, mask int) []api.Fragment {
	var list []api.Fragment
	for _, r := range gapsOf(mask) {
		list = append(list, r.on(l, grid()))
	}
	return list
}

// P7.5: Join of all triples of stretches on one line
func TestJoinTriples(t *testing.T) {
	l := ln("3", "-5", "11")
	for _, r := range stretches() {
		for _, q := range stretches() {
			for _, s := range stretches() {
				list := []api.Fragment{r.on(l, grid()), q.on(l, grid()), s.on(l, grid())}
				checkJoin(t, list, onLine(l, r.mask()|q.mask()|s.mask())...)
			}
		}
	}
}

// ascending are the lines of the samples in the order of line.Compare, by hand.
func ascending() []api.Line {
	l := lines()
	return []api.Line{l[11], l[9], l[6], l[3], l[1], l[0], l[4], l[2], l[5], l[7], l[8], l[10]}
}

// P7.5: Join of sets on all lines, also on both orientations of one, in another order and with gaps that occur twice
func TestJoinLines(t *testing.T) {
	for seed := range 64 {
		var list, want []api.Fragment
		for i, l := range ascending() {
			mask := (seed*37 + i*i*11) % 64
			want = append(want, onLine(l, mask)...)
			for gap := range gaps {
				if mask>>gap&1 == 1 {
					list = append(list, stretch{gap, gap}.on(l, grid()))
				}
				if mask>>gap&3 == 3 {
					list = append(list, stretch{gap, gap + 1}.on(l, grid()))
				}
			}
		}
		checkJoin(t, shuffled(list), want...)
		checkJoin(t, want, want...)
	}
}

// shuffled has the elements of a list in an order that is far from ascending.
func shuffled(list []api.Fragment) []api.Fragment {
	var result []api.Fragment
	for first := range 7 {
		for i := len(list) - 1 - first; i >= 0; i -= 7 {
			result = append(result, list[i])
		}
	}
	return result
}

// P7.5: the order by hand, on which TestJoinLines relies, is that of line.Compare.
func TestAscending(t *testing.T) {
	for i, l := range ascending() {
		for k, m := range ascending() {
			if got := line.Compare(l, m) < 0; got != (i < k) {
				t.Fatal(i, k, got)
			}
		}
	}
}

// P7.5: Join by hand
func TestJoinExamples(t *testing.T) {
	checkJoin(t, nil)
	checkJoin(t, []api.Fragment{})
	a, b := joinOf("(0,0)", "(1,0)"), joinOf("(1,0)", "(3,0)")
	checkJoin(t, []api.Fragment{a, b}, joinOf("(0,0)", "(3,0)"))
	checkJoin(t, []api.Fragment{b, a}, joinOf("(0,0)", "(3,0)"))
	checkJoin(t, []api.Fragment{a, a}, a)
	// Opposite orientations stay apart, and the line with the lesser coefficients comes first.
	back := joinOf("(3,0)", "(1,0)")
	checkJoin(t, []api.Fragment{a, back, b}, back, joinOf("(0,0)", "(3,0)"))
	checkJoin(t, []api.Fragment{joinOf("(0,0)", "(1,1)"), joinOf("(1,1)", "(1,0)")}, joinOf("(0,0)", "(1,1)"), joinOf("(1,1)", "(1,0)"))
	checkJoin(t, []api.Fragment{joinOf("(2,0)", "(3,0)"), a}, a, joinOf("(2,0)", "(3,0)"))
}

// many are n segments of the line y = 1, each 2 to the right of the one before it, in descending order.
func many(n int, length int64) []api.Fragment {
	var list []api.Fragment
	for i := range int64(n) {
		list = append(list, api.Fragment{Line: ln("0", "1", "-1"), Span: api.Span{Lo: rational.FromInt(2 * i), Hi: rational.FromInt(2*i + length)}})
	}
	slices.Reverse(list)
	return list
}

// P7.5: more fragments on one line than a set may have spans are no error, however many are left.
func TestJoinMany(t *testing.T) {
	const n = api.MaxSpans + 100
	for _, length := range []int64{2, 3, 1000} {
		want := api.Fragment{Line: ln("0", "1", "-1"), Span: api.Span{Lo: rational.FromInt(0), Hi: rational.FromInt(2*n - 2 + length)}}
		checkJoin(t, many(n, length), want)
	}
	apart := many(n, 1)
	ordered := slices.Clone(apart)
	slices.Reverse(ordered)
	checkJoin(t, apart, ordered...)
	checkJoin(t, apart[:api.MaxSpans], ordered[n-api.MaxSpans:]...)
}

// P7.5: Join of a list with a fragment that is not valid, at each place
func TestJoinInvalid(t *testing.T) {
	a, b := joinOf("(0,0)", "(1,0)"), joinOf("(5,0)", "(3,1)")
	for _, bad := range invalidFragments() {
		for _, list := range [][]api.Fragment{{bad}, {bad, a}, {a, bad}, {a, bad, b}, {a, b, bad}, {bad, bad}} {
			got, err := fragment.Join(list)
			checkInvalid(t, "Join", err)
			checkList(t, "Join", got, nil)
		}
	}
}
