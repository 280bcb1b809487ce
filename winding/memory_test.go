package winding_test

import (
	"slices"
	"testing"

	"bspregion/api"
	"bspregion/point"
	"bspregion/winding"
)

const spare = 10

// ofPoint are the slices of p.
func ofPoint(p *api.Point) []*api.Nat {
	return []*api.Nat{&p.X.Num.Abs, &p.X.Den, &p.Y.Num.Abs, &p.Y.Den}
}

// ofRings are the slices of the numbers of rings.
func ofRings(rings []api.Ring) []*api.Nat {
	var all []*api.Nat
	for _, r := range rings {
		for i := range r {
			all = append(all, ofPoint(&r[i])...)
		}
	}
	return all
}

// ofLines are the slices of the numbers of lines.
func ofLines(list []api.Line) []*api.Nat {
	var all []*api.Nat
	for i := range list {
		all = append(all, &list[i].A.Abs, &list[i].B.Abs, &list[i].C.Abs)
	}
	return all
}

// widen is a copy of the list with spare capacity, which is filled.
func widen[E any](list []E, filling E) []E {
	return slices.Concat(list, slices.Repeat([]E{filling}, spare))[:len(list)]
}

// roomyPoint is p with spare capacity in all numbers.
func roomyPoint(p api.Point) api.Point {
	for _, part := range ofPoint(&p) {
		*part = widen(*part, 5)
	}
	return p
}

// roomy are the rings with spare capacity in all lists and numbers.
func roomy(rings []api.Ring) []api.Ring {
	list := widen(rings, square().ring())
	for i, r := range list {
		list[i] = widen(r, point.FromInts(5, 5))
	}
	for _, part := range ofRings(list) {
		*part = widen(*part, 5)
	}
	return list
}

// samePart reports whether a and b, made by widen, are the same, and what lies beyond their ends.
func samePart(a, b *api.Nat) bool {
	return slices.Equal((*a)[:len(*a)+spare], (*b)[:len(*b)+spare])
}

// intact reports whether list, made by roomy(rings), and q, made by roomyPoint(p), still are what they were.
func intact(rings, list []api.Ring, p, q api.Point) bool {
	want, wantPoint := roomy(rings), roomyPoint(p)
	if !slices.EqualFunc(ofRings(want), ofRings(list), samePart) || !slices.EqualFunc(ofPoint(&wantPoint), ofPoint(&q), samePart) {
		return false
	}
	// The rings beyond the end of a list have no spare capacity.
	same := func(r, s api.Ring) bool { return slices.EqualFunc(r, s, point.Same) }
	widelySame := func(r, s api.Ring) bool { return same(r, s) && same(beyond(r), beyond(s)) }
	return slices.EqualFunc(want, list, widelySame) && slices.EqualFunc(beyond(want), beyond(list), same)
}

// beyond is the spare capacity of a list made by widen.
func beyond[E any](list []E) []E {
	return list[len(list) : len(list)+spare]
}

// someLists calls test with lists of rings of all kinds, valid or not.
func someLists(test func(rings []api.Ring)) {
	for _, c := range badLists() {
		if len(c.rings) < 10 && len(slices.Concat(c.rings...)) < 50 {
			test(c.rings)
		}
	}
	for _, c := range classCases() {
		test(c.rings)
	}
	long(func(s system, rings []api.Ring, m mapping) { test(rings) })
}

// Rule 2: arguments are not modified.
func TestArguments(t *testing.T) {
	points := []api.Point{{}, at("(1,1)"), at("(2,1)"), {X: raw(4, 4, 0), Y: raw(-2, 0)}}
	someLists(func(rings []api.Ring) {
		for _, p := range points {
			list, q := roomy(rings), roomyPoint(p)
			winding.On(list, q)
			winding.Number(list, q)
			winding.Lines(list)
			for _, fill := range fills() {
				winding.Class(list, fill, q)
			}
			if !intact(rings, list, p, q) {
				t.Fatal("changes an argument:", show(rings))
			}
		}
	})
}

// overwrite changes all digits of a and of its spare capacity.
func overwrite(a api.Nat) {
	a = a[:cap(a)]
	for i := range a {
		a[i] ^= 0xaaaaaaaa
	}
}

// Rule 2: neither two results, nor two parts of a result, nor a result and an argument share memory.
func TestLinesMemory(t *testing.T) {
	someLists(func(rings []api.Ring) {
		list := roomy(rings)
		first, _ := winding.Lines(list)
		second, _ := winding.Lines(list)
		want, wantErr := winding.Lines(rings)
		parts, rest := ofLines(first), ofLines(want)
		for i, part := range parts {
			overwrite(*part)
			if !slices.EqualFunc(parts[i+1:], rest[i+1:], func(a, b *api.Nat) bool { return slices.Equal(*a, *b) }) {
				t.Fatal("parts of a result share memory:", show(rings))
			}
		}
		clear(first[:cap(first)])
		if wantErr == nil {
			checkLines(t, rings, second, nil, want)
		}
		if !intact(rings, list, api.Point{}, roomyPoint(api.Point{})) {
			t.Fatal("a result has the memory of an argument:", show(rings))
		}
	})
}

// Rule 2: the rings of a list, and the vertices of a ring, may have the same memory.
func TestSameMemory(t *testing.T) {
	a := at("(1,1)")
	r := api.Ring{{X: a.X, Y: a.X}, {X: api.Rat{Num: a.X.Num, Den: a.Y.Den}, Y: at("(0,3)").Y}, at("(4,4)"), {X: at("(4,4)").X, Y: a.Y}}
	apart := ringOf("(1,1)", "(1,3)", "(4,4)", "(4,1)")
	p := api.Point{X: r[1].Y, Y: r[1].Y}
	for _, fill := range fills() {
		class, err := winding.Class([]api.Ring{r, r, r[:3]}, fill, p)
		want, _ := winding.Class([]api.Ring{apart, apart, apart[:3]}, fill, at("(3,3)"))
		checkIs(t, "Class", []api.Ring{r, r, r[:3]}, p, class, err, want)
	}
	got, err := winding.Lines([]api.Ring{r, r, r[:3]})
	want, _ := winding.Lines([]api.Ring{apart, apart[:3]})
	checkLines(t, []api.Ring{r}, got, err, want)
}
