package span_test

import (
	"slices"
	"testing"

	"bspregion/api"
	"bspregion/span"
)

// validSpans are valid spans of all forms.
func validSpans() []api.Span {
	list := []api.Span{
		segment("0", "1"), segment("-1", "0"), segment("-2", "-1"), segment("1/3", "1/2"), segment("-1/2", "-1/3"),
		segment("10000000000000000000000", "10000000000000000000000000000000000000001/1000000000000000000"),
		{NoLo: true, Lo: api.Rat{Num: api.Int{Abs: api.Nat{}}, Den: api.Nat{}}, Hi: number("-5")},
		{Lo: number("-5"), NoHi: true, Hi: api.Rat{Num: api.Int{Abs: api.Nat{}}, Den: api.Nat{}}},
	}
	for first := range gaps {
		for last := first; last < gaps; last++ {
			list = append(list, between(first, last))
		}
	}
	return list
}

// badEnds are numbers that are not in normal form, some of them between -3 and 3.
func badEnds() []api.Rat {
	return []api.Rat{
		{}, {Num: api.Int{Neg: true}}, {Num: api.Int{Abs: api.Nat{1}}}, {Num: api.Int{Neg: true}, Den: api.Nat{1}}, {Num: api.Int{Abs: api.Nat{0}}, Den: api.Nat{1}},
		raw(2, 4), raw(-4, 2), raw(0, 2), raw(1, 0), raw(1, 0, 0), raw(1, 3, 0), {Num: api.Int{Abs: api.Nat{1, 0}}, Den: api.Nat{3}},
	}
}

// invalidSpans are not valid, each for one reason.
func invalidSpans() []api.Span {
	list := []api.Span{
		{}, segment("0", "0"), segment("1/3", "1/3"), segment("1", "0"), segment("0", "-1"), segment("-1/3", "-1/2"), segment("1/2", "1/3"),
		segment("10000000000000000000001", "10000000000000000000000"),
	}
	for _, end := range badEnds() {
		list = append(list, api.Span{Lo: end, Hi: number("3")}, api.Span{Lo: number("-3"), Hi: end}, api.Span{Lo: end, NoHi: true}, api.Span{NoLo: true, Hi: end})
	}
	for _, end := range []api.Rat{
		number("0"), number("-5"), number("5"), {Num: api.Int{Neg: true}}, {Num: api.Int{Abs: api.Nat{0}}}, {Num: api.Int{Abs: api.Nat{1}}}, {Den: api.Nat{0}}, {Den: api.Nat{1}},
	} {
		for _, other := range []string{"-9", "9"} {
			list = append(list, api.Span{NoLo: true, Lo: end, Hi: number(other)}, api.Span{Lo: number(other), NoHi: true, Hi: end})
		}
		list = append(list, api.Span{NoLo: true, Lo: end, NoHi: true}, api.Span{NoLo: true, NoHi: true, Hi: end})
	}
	return list
}

// badLists are lists for Join that have a span that is not valid, or too many spans.
func badLists() [][]api.Span {
	list := [][]api.Span{ladder(api.MaxSpans+1, 0, 2, 1), slices.Repeat([]api.Span{whole()}, api.MaxSpans+1)}
	for _, s := range invalidSpans() {
		list = append(list, []api.Span{s}, []api.Span{upTo("-100"), s}, []api.Span{s, from("100")}, []api.Span{upTo("-100"), s, from("100")})
	}
	return list
}

// badOrders are lists of valid spans that are no sets.
func badOrders() [][]api.Span {
	return [][]api.Span{
		{segment("0", "1"), segment("1", "2")},
		{segment("0", "2"), segment("1", "3")},
		{segment("0", "3"), segment("1", "2")},
		{segment("1", "2"), segment("0", "3")},
		{segment("0", "1"), segment("0", "1")},
		{segment("0", "1"), segment("0", "2")},
		{segment("2", "3"), segment("0", "1")},
		{segment("1", "2"), segment("0", "1")},
		{upTo("0"), segment("0", "1")},
		{upTo("0"), segment("-1/2", "1")},
		{segment("0", "1"), from("1")},
		{segment("0", "1"), from("1/2")},
		{upTo("0"), from("0")},
		{upTo("0"), from("-1")},
		{from("1"), upTo("0")},
		{from("0"), segment("1", "2")},
		{from("0"), segment("-2", "-1")},
		{from("0"), from("1")},
		{segment("0", "1"), upTo("2")},
		{segment("0", "1"), upTo("-1")},
		{upTo("0"), upTo("1")},
		{upTo("-2"), upTo("-1")},
		{segment("-3", "-2"), upTo("-1")},
		{segment("-3", "-2"), whole()},
		{whole(), whole()},
		{whole(), segment("0", "1")},
		{segment("0", "1"), whole()},
		{segment("0", "1"), segment("2", "3"), segment("3", "4")},
		{segment("0", "1"), segment("1", "2"), segment("3", "4")},
		{segment("0", "1"), segment("4", "5"), segment("2", "3")},
	}
}

// notSets are lists that are no sets.
func notSets() [][]api.Span {
	return append(badLists(), badOrders()...)
}

// P6.1: ValidSpan
func TestValidSpan(t *testing.T) {
	for _, s := range validSpans() {
		if !span.ValidSpan(s) {
			t.Error(s)
		}
	}
	for _, s := range invalidSpans() {
		if span.ValidSpan(s) {
			t.Error(s)
		}
	}
}

// P6.1: Valid of sets
func TestValid(t *testing.T) {
	for mask := range uint(masks) {
		if !span.Valid(setOf(mask)) {
			t.Error(setOf(mask))
		}
	}
	for _, s := range validSpans() {
		if !span.Valid([]api.Span{s}) {
			t.Error(s)
		}
	}
	for _, a := range [][]api.Span{
		nil, {}, {whole()}, {upTo("-2"), segment("-1", "0"), segment("1/3", "1/2"), from("3")}, {upTo("0"), from("1/10000000000000000000000")},
		ladder(api.MaxSpans, -100, 2, 1),
	} {
		if !span.Valid(a) {
			t.Errorf("%d spans: %.3v", len(a), a)
		}
	}
}

// P6.1: Valid of lists that are no sets
func TestNotValid(t *testing.T) {
	for _, a := range notSets() {
		if span.Valid(a) {
			t.Errorf("%d spans: %v", len(a), a[:min(len(a), 3)])
		}
	}
}

// All functions with an error return one of the kind ErrInvalid, and nothing else, if an argument is no set.
func TestInvalid(t *testing.T) {
	check := func(name string, got []api.Span, err error) {
		t.Helper()
		checkKind(t, name, err, api.ErrInvalid)
		if len(got) > 0 {
			t.Error(name, got)
		}
	}
	for _, a := range notSets() {
		set, err := span.Complement(a)
		check("Complement", set, err)
		class, err := span.Class(a, number("1/2"))
		checkKind(t, "Class", err, api.ErrInvalid)
		length, lengthErr := span.Length(a)
		checkKind(t, "Length", lengthErr, api.ErrInvalid)
		samples, samplesErr := span.Samples(a)
		checkKind(t, "Samples", samplesErr, api.ErrInvalid)
		if class != 0 || !sameRat(length, api.Rat{}) || len(samples) > 0 {
			t.Error(class, length, samples)
		}
	}
	for _, a := range badLists() {
		set, err := span.Join(a)
		check("Join", set, err)
	}
}

// An argument of an operator that is no set is an error on either side, and on both.
func TestInvalidOperands(t *testing.T) {
	for _, bad := range notSets() {
		for _, args := range [][2][]api.Span{{bad, nil}, {nil, bad}, {bad, {whole()}}, {{whole()}, bad}, {bad, bad}} {
			for _, o := range operators() {
				got, err := o.run(args[0], args[1])
				checkKind(t, o.name, err, api.ErrInvalid)
				if len(got) > 0 {
					t.Error(o.name, got)
				}
			}
		}
	}
}
