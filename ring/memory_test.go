package ring_test

import (
	"slices"
	"testing"

	"bspregion/api"
	"bspregion/point"
	"bspregion/ring"
)

const spare = 10

// ofRat are the slices of a.
func ofRat(a *api.Rat) []*api.Nat {
	return []*api.Nat{&a.Num.Abs, &a.Den}
}

// ofRing are the slices of the numbers of r.
func ofRing(r api.Ring) []*api.Nat {
	var all []*api.Nat
	for i := range r {
		all = append(all, ofRat(&r[i].X)...)
		all = append(all, ofRat(&r[i].Y)...)
	}
	return all
}

// ofFragment are the slices of the numbers of f.
func ofFragment(f *api.Fragment) []*api.Nat {
	all := []*api.Nat{&f.Line.A.Abs, &f.Line.B.Abs, &f.Line.C.Abs}
	return slices.Concat(all, ofRat(&f.Span.Lo), ofRat(&f.Span.Hi))
}

// widen is a copy of the list with spare capacity, which is filled.
func widen[E any](list []E, filling E) []E {
	return slices.Concat(list, slices.Repeat([]E{filling}, spare))[:len(list)]
}

// roomy is r with spare capacity in the list and in all numbers.
func roomy(r api.Ring) api.Ring {
	r = widen(r, point.FromInts(5, 5))
	for _, part := range ofRing(r) {
		*part = widen(*part, 5)
	}
	return r
}

// intact reports whether s, made by roomy(r), still is what it was.
func intact(r, s api.Ring) bool {
	want := roomy(r)
	same := func(a, b *api.Nat) bool { return slices.Equal((*a)[:len(*a)+spare], (*b)[:len(*b)+spare]) }
	size := len(r) + spare
	return slices.EqualFunc(ofRing(want), ofRing(s), same) && sameRing(want[:size], s[:size])
}

// result is what a function returns.
type result struct {
	ring  api.Ring
	edges []api.Fragment
	area  api.Rat
	turns []int
}

// nats are the slices of the numbers of x.
func (x *result) nats() []*api.Nat {
	all := append(ofRing(x.ring), ofRat(&x.area)...)
	for i := range x.edges {
		all = append(all, ofFragment(&x.edges[i])...)
	}
	return all
}

// is reports whether x and y are the same in all digits.
func (x result) is(y result) bool {
	same := func(a, b *api.Nat) bool { return slices.Equal(*a, *b) }
	return slices.EqualFunc(x.nats(), y.nats(), same) && len(x.ring) == len(y.ring) && slices.Equal(x.turns, y.turns)
}

// overwrite changes all digits of a and of its spare capacity.
func overwrite(a api.Nat) {
	a = a[:cap(a)]
	for i := range a {
		a[i] ^= 0xaaaaaaaa
	}
}

// call has the results of one function.
type call struct {
	name string
	run  func(r api.Ring) result
}

// calls are the functions that return lists or numbers. Their errors are examined by other tests.
func calls() []call {
	return []call{
		{"Edges", func(r api.Ring) result {
			list, _ := ring.Edges(r)
			return result{edges: list}
		}},
		{"Area", func(r api.Ring) result {
			area, _ := ring.Area(r)
			return result{area: area}
		}},
		{"Reverse", func(r api.Ring) result {
			s, _ := ring.Reverse(r)
			return result{ring: s}
		}},
		{"Canon", func(r api.Ring) result {
			s, _ := ring.Canon(r)
			return result{ring: s}
		}},
		{"Turns", func(r api.Ring) result {
			list, _ := ring.Turns(r)
			return result{turns: list}
		}},
	}
}

// someRings calls test with rings of all kinds, valid or not.
func someRings(test func(r api.Ring)) {
	for _, c := range badRings() {
		if len(c.r) < 10 {
			test(c.r)
		}
	}
	for _, c := range shapes() {
		test(c.l.ring())
		for _, m := range mappings() {
			test(m.of(c.l))
		}
	}
}

// Rule 2: arguments are not modified, and neither two results, nor two parts of a result, nor a result and an argument share memory.
func TestMemory(t *testing.T) {
	for _, c := range calls() {
		someRings(func(r api.Ring) {
			s := roomy(r)
			first, second, want := c.run(s), c.run(s), c.run(r)
			if !intact(r, s) {
				t.Fatal(c.name, "changes an argument:", show(r))
			}
			parts, rest := first.nats(), want.nats()
			for i, part := range parts {
				overwrite(*part)
				if !slices.EqualFunc(parts[i+1:], rest[i+1:], func(a, b *api.Nat) bool { return slices.Equal(*a, *b) }) {
					t.Fatal(c.name, "has results that share memory:", show(r))
				}
			}
			clear(first.ring[:cap(first.ring)])
			clear(first.edges[:cap(first.edges)])
			clear(first.turns[:cap(first.turns)])
			if !second.is(want) {
				t.Fatal(c.name, "has results that share memory:", show(r))
			}
			if !intact(r, s) {
				t.Fatal(c.name, "returns the memory of an argument:", show(r))
			}
		})
	}
}

// Rule 2: the other functions do not modify their arguments either, and the rings of Compare may have the same memory.
func TestReaders(t *testing.T) {
	someRings(func(r api.Ring) {
		s := roomy(r)
		ring.Check(s)
		ring.Simple(s)
		ring.Convex(s)
		ring.Compare(s, s[:len(s)/2])
		order, _ := ring.Compare(s, s)
		checkIs(t, "Compare with itself", r, order, nil, 0)
		if !intact(r, s) {
			t.Fatal(show(r))
		}
	})
}

// Rule 2: the vertices of a ring may have the same memory.
func TestSameMemory(t *testing.T) {
	for _, c := range calls() {
		someRings(func(r api.Ring) {
			if len(r) < 2 {
				return
			}
			s := slices.Clone(r)
			s[0].Y, s[1].Y, s[len(s)-1].X = r[0].X, r[0].X, r[0].X
			if got, want := c.run(s), c.run(roomy(s)); !got.is(want) {
				t.Fatal(c.name, show(s))
			}
		})
	}
}
