package span_test

import (
	"slices"
	"testing"

	"bspregion/api"
	"bspregion/span"
)

// operator is an operator on two sets, and what it does with the masks of their gaps.
type operator struct {
	name string
	run  func(a, b []api.Span) ([]api.Span, error)
	mask func(a, b uint) uint
}

// operators are the operators on two sets.
func operators() []operator {
	return []operator{
		{"Union", span.Union, func(a, b uint) uint { return a | b }},
		{"Intersect", span.Intersect, func(a, b uint) uint { return a & b }},
		{"Subtract", span.Subtract, func(a, b uint) uint { return a &^ b }},
	}
}

// P6.2: Union, Intersect and Subtract of all pairs of sets on the grid
func TestOperators(t *testing.T) {
	for _, o := range operators() {
		for code := range uint(masks * masks) {
			a, b := code%masks, code/masks
			got, err := o.run(setOf(a), setOf(b))
			checkSet(t, o.name, got, err, setOf(o.mask(a, b))...)
		}
	}
}

// P6.2: Complement of all sets on the grid, and of the complement
func TestComplement(t *testing.T) {
	for mask := range uint(masks) {
		once, err := span.Complement(setOf(mask))
		checkSet(t, "Complement", once, err, setOf(masks-1-mask)...)
		twice, err := span.Complement(once)
		checkSet(t, "Complement of the complement", twice, err, setOf(mask)...)
	}
}

// P6.2: the operators by hand
func TestOperatorExamples(t *testing.T) {
	set := func(list ...api.Span) []api.Span { return list }
	third, more := segment("0", "1/3"), segment("3333333333333333333334/10000000000000000000000", "2")
	for _, c := range []struct {
		name       string
		run        func(a, b []api.Span) ([]api.Span, error)
		a, b, want []api.Span
	}{
		{"Union of touching segments", span.Union, set(segment("0", "1")), set(segment("1", "2")), set(segment("0", "2"))},
		{"Union of touching segments, turned", span.Union, set(segment("1", "2")), set(segment("0", "1")), set(segment("0", "2"))},
		{"Union of near segments", span.Union, set(third), set(more), set(third, more)},
		{"Union of touching rays", span.Union, set(upTo("0")), set(from("0")), set(whole())},
		{"Union with the gap", span.Union, set(segment("0", "1"), segment("2", "3")), set(segment("1", "2")), set(segment("0", "3"))},
		{"Union with a part", span.Union, set(segment("0", "3")), set(segment("1", "2")), set(segment("0", "3"))},
		{"Union with the line", span.Union, set(whole()), set(segment("1", "2")), set(whole())},
		{"Union of nothing", span.Union, nil, nil, nil},
		{"Intersect of touching segments", span.Intersect, set(segment("0", "1")), set(segment("1", "2")), nil},
		{"Intersect of touching rays", span.Intersect, set(upTo("0")), set(from("0")), nil},
		{"Intersect of rays", span.Intersect, set(upTo("1")), set(from("0")), set(segment("0", "1"))},
		{"Intersect with rays", span.Intersect, set(segment("0", "3")), set(upTo("1"), from("2")), set(segment("0", "1"), segment("2", "3"))},
		{"Intersect that has a single point, too", span.Intersect, set(segment("0", "1"), segment("2", "3")), set(segment("1", "5/2")), set(segment("2", "5/2"))},
		{"Intersect with the line", span.Intersect, set(whole()), set(from("-1/2")), set(from("-1/2"))},
		{"Subtract of a part", span.Subtract, set(segment("0", "3")), set(segment("1", "2")), set(segment("0", "1"), segment("2", "3"))},
		{"Subtract at the lower end", span.Subtract, set(segment("0", "3")), set(segment("0", "2")), set(segment("2", "3"))},
		{"Subtract at the upper end", span.Subtract, set(segment("0", "3")), set(segment("2", "3")), set(segment("0", "2"))},
		{"Subtract of the set", span.Subtract, set(segment("0", "3"), from("4")), set(segment("0", "3"), from("4")), nil},
		{"Subtract of a touching segment", span.Subtract, set(segment("0", "3")), set(segment("3", "4")), set(segment("0", "3"))},
		{"Subtract from the line", span.Subtract, set(whole()), set(segment("0", "1")), set(upTo("0"), from("1"))},
		{"Subtract from nothing", span.Subtract, nil, set(segment("0", "1")), nil},
	} {
		got, err := c.run(c.a, c.b)
		checkSet(t, c.name, got, err, c.want...)
	}
	got, err := span.Complement(nil)
	checkSet(t, "Complement of nothing", got, err, whole())
	got, err = span.Complement(set(whole()))
	checkSet(t, "Complement of the line", got, err)
}

// P6.1: Join of all lists of up to three spans on the grid, in any order and also twice
func TestJoin(t *testing.T) {
	var spans []api.Span
	var covers []uint
	for first := range gaps {
		for last := first; last < gaps; last++ {
			spans = append(spans, between(first, last))
			covers = append(covers, 1<<(last+1)-1<<first)
		}
	}
	for i, s := range spans {
		got, err := span.Join([]api.Span{s})
		checkSet(t, "Join of one", got, err, setOf(covers[i])...)
		for j, r := range spans {
			got, err = span.Join([]api.Span{s, r})
			checkSet(t, "Join of two", got, err, setOf(covers[i]|covers[j])...)
			for k, q := range spans {
				got, err = span.Join([]api.Span{s, r, q})
				checkSet(t, "Join of three", got, err, setOf(covers[i]|covers[j]|covers[k])...)
			}
		}
	}
}

// P6.1: Join by hand
func TestJoinExamples(t *testing.T) {
	for _, c := range []struct{ list, want []api.Span }{
		{nil, nil},
		{[]api.Span{segment("1", "2"), segment("0", "1")}, []api.Span{segment("0", "2")}},
		{[]api.Span{segment("5", "6"), segment("0", "4"), segment("1", "2"), segment("-3/2", "-1")}, []api.Span{segment("-3/2", "-1"), segment("0", "4"), segment("5", "6")}},
		{[]api.Span{segment("0", "1"), segment("0", "1"), segment("1", "3/2"), segment("1/2", "1")}, []api.Span{segment("0", "3/2")}},
		{[]api.Span{from("7"), upTo("0"), from("8"), upTo("-1"), segment("1", "7")}, []api.Span{upTo("0"), from("1")}},
		{[]api.Span{from("0"), whole(), whole(), upTo("0")}, []api.Span{whole()}},
	} {
		got, err := span.Join(c.list)
		checkSet(t, "Join", got, err, c.want...)
	}
}

// P6.1: Join of as many spans as are permitted
func TestJoinMost(t *testing.T) {
	turned := func(list []api.Span) []api.Span {
		slices.Reverse(list)
		return list
	}
	const n = api.MaxSpans
	got, err := span.Join(turned(ladder(n, -1000, 2, 1)))
	checkSet(t, "Join of spans apart", got, err, ladder(n, -1000, 2, 1)...)
	got, err = span.Join(turned(ladder(n, 0, 1, 1)))
	checkSet(t, "Join of touching spans", got, err, segment("0", "4096"))
	got, err = span.Join(slices.Repeat(ladder(1, 1, 1, 1), n))
	checkSet(t, "Join of equal spans", got, err, segment("1", "2"))
}

// P6.2: results may have more than MaxSpans spans.
func TestLongResults(t *testing.T) {
	const n = api.MaxSpans
	got, err := span.Union(ladder(n, 0, 4, 1), ladder(n, 2, 4, 1))
	checkSet(t, "Union", got, err, ladder(2*n, 0, 2, 1)...)
	got, err = span.Intersect(ladder(n, 0, 4, 3), ladder(n, 2, 4, 3))
	checkSet(t, "Intersect", got, err, ladder(2*n-1, 2, 2, 1)...)
	got, err = span.Subtract(ladder(n, 0, 4, 3), ladder(n, 1, 4, 1))
	checkSet(t, "Subtract", got, err, ladder(2*n, 0, 2, 1)...)
	got, err = span.Complement(ladder(n, 0, 2, 1))
	want := slices.Concat([]api.Span{upTo("0")}, ladder(n-1, 1, 2, 1), []api.Span{from("8191")})
	checkSet(t, "Complement", got, err, want...)
}

// Consequences: distributivity and absorption
func TestLaws(t *testing.T) {
	// must drops the errors, which other tests examine.
	must := func(a []api.Span, err error) []api.Span { return a }
	for code := range uint(masks * masks) {
		a, b, c := setOf(code%masks), setOf(code/masks), setOf(code*37%masks)
		union := must(span.Union(a, b))
		both := must(span.Union(must(span.Intersect(a, c)), must(span.Intersect(b, c))))
		got, err := span.Intersect(union, c)
		checkSet(t, "distributivity", got, err, both...)
		got, err = span.Intersect(union, a)
		checkSet(t, "absorption", got, err, a...)
	}
}
