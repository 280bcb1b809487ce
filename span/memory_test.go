package span_test

import (
	"slices"
	"testing"

	"bspregion/api"
	"bspregion/span"
)

const spare = 10

// digits are the slices of the numbers of a list of spans.
func digits(list []api.Span) []*api.Nat {
	var all []*api.Nat
	for i := range list {
		for _, n := range []*api.Rat{&list[i].Lo, &list[i].Hi} {
			all = append(all, &n.Num.Abs, &n.Den)
		}
	}
	return all
}

// roomy is the list with spare capacity, and so are its numbers, filled with copies of a segment and with fives.
func roomy(list []api.Span) []api.Span {
	n := len(list)
	list = slices.Concat(list, slices.Repeat([]api.Span{segment("5", "55")}, spare))[:n]
	for _, part := range digits(list) {
		*part = slices.Concat(*part, slices.Repeat(api.Nat{5}, spare))[:len(*part)]
	}
	return list
}

// intact reports whether b, made by roomy(a), still is what it was.
func intact(a, b []api.Span) bool {
	n := len(a)
	want := roomy(a)
	full := func(x, y *api.Nat) bool {
		return slices.Equal((*x)[:len(*x)+spare], (*y)[:len(*y)+spare])
	}
	return slices.EqualFunc(want[:n+spare], b[:n+spare], sameSpan) && slices.EqualFunc(digits(want), digits(b), full)
}

// result is what one function returns: a list of spans or of numbers.
type result struct {
	spans   []api.Span
	numbers []api.Rat
}

// nats are the slices of the numbers of r.
func (r result) nats() []*api.Nat {
	all := digits(r.spans)
	for i := range r.numbers {
		all = append(all, &r.numbers[i].Num.Abs, &r.numbers[i].Den)
	}
	return all
}

// is reports whether r and s are the same in all digits.
func (r result) is(s result) bool {
	return slices.EqualFunc(r.spans, s.spans, sameSpan) && slices.EqualFunc(r.numbers, s.numbers, sameRat)
}

// clear changes the lists of r and their spare capacity.
func (r result) clear() {
	clear(r.spans[:cap(r.spans)])
	clear(r.numbers[:cap(r.numbers)])
}

// overwrite changes all digits of a and of its spare capacity.
func overwrite(a api.Nat) {
	a = a[:cap(a)]
	for i := range a {
		a[i] ^= 0xaaaaaaaa
	}
}

// call has the results of one function.
type call struct {
	name string
	run  func(a, b []api.Span) result
}

// calls are the functions that return lists or numbers. Their errors are examined by other tests.
func calls() []call {
	list := []call{
		{"Join", func(a, b []api.Span) result {
			set, _ := span.Join(a)
			return result{spans: set}
		}},
		{"Complement", func(a, b []api.Span) result {
			set, _ := span.Complement(a)
			return result{spans: set}
		}},
		{"Length", func(a, b []api.Span) result {
			length, _ := span.Length(a)
			return result{numbers: []api.Rat{length}}
		}},
		{"Samples", func(a, b []api.Span) result {
			samples, _ := span.Samples(a)
			return result{numbers: samples}
		}},
	}
	for _, o := range operators() {
		list = append(list, call{o.name, func(a, b []api.Span) result {
			set, _ := o.run(a, b)
			return result{spans: set}
		}})
	}
	return list
}

// someArgs calls test with pairs of lists: sets, spans in any order and others.
func someArgs(test func(a, b []api.Span)) {
	lists := [][]api.Span{
		{segment("3", "4"), segment("0", "1"), segment("1", "2")}, {from("0"), segment("-1", "1/2"), upTo("-3")}, {{Lo: raw(2, 4), NoHi: true}}, {{}},
	}
	for mask := uint(0); mask < masks; mask += 3 {
		lists = append(lists, setOf(mask))
	}
	for _, a := range lists {
		for _, b := range lists {
			test(a, b)
		}
	}
}

// Rule 2: arguments are not modified, and neither two results, nor two parts of a result, nor a result and an argument share memory.
func TestMemory(t *testing.T) {
	for _, c := range calls() {
		someArgs(func(a, b []api.Span) {
			x, y := roomy(a), roomy(b)
			first, second, want := c.run(x, y), c.run(x, y), c.run(a, b)
			if !intact(a, x) || !intact(b, y) {
				t.Fatal(c.name, "changes an argument:", a, b)
			}
			same := func(p, q *api.Nat) bool { return slices.Equal(*p, *q) }
			parts, rest := first.nats(), want.nats()
			for i, part := range parts {
				overwrite(*part)
				if !second.is(want) || !slices.EqualFunc(parts[i+1:], rest[i+1:], same) {
					t.Fatal(c.name, "has results that share memory:", a, b)
				}
			}
			first.clear()
			if !second.is(want) {
				t.Fatal(c.name, "has results that share memory:", a, b)
			}
			if !intact(a, x) || !intact(b, y) {
				t.Fatal(c.name, "returns the memory of an argument:", a, b)
			}
		})
	}
}

// Rule 2: the functions that return no numbers do not modify their arguments either.
func TestReaders(t *testing.T) {
	someArgs(func(a, b []api.Span) {
		x, y := roomy(a), roomy(b)
		span.Valid(x)
		for _, s := range x {
			span.ValidSpan(s)
		}
		for _, s := range y {
			span.Class(x, s.Lo)
			span.Class(x, s.Hi)
		}
		if !intact(a, x) || !intact(b, y) {
			t.Fatal(a, b)
		}
	})
}

// Rule 2: both arguments, and the ends of one span and of several, may have the same memory.
func TestSameArgument(t *testing.T) {
	lo := number("1/3")
	shared := api.Span{Lo: lo, Hi: api.Rat{Num: api.Int{Abs: lo.Den}, Den: lo.Num.Abs}}
	for _, a := range [][]api.Span{{shared}, {shared, from("7/2")}, {upTo("0"), shared}, {shared, shared}} {
		for _, c := range calls() {
			if got, want := c.run(a, a), c.run(a, roomy(a)); !got.is(want) {
				t.Fatal(c.name, a, got, want)
			}
		}
	}
}
