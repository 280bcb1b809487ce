package fragment_test

import (
	"slices"
	"testing"

	"bspregion/api"
	"bspregion/fragment"
)

const spare = 10

// args are arguments for all functions.
type args struct {
	f, g   api.Fragment
	l      api.Line
	p, q   api.Point
	points []api.Point
	list   []api.Fragment
}

// ofRat are the slices of a.
func ofRat(a *api.Rat) []*api.Nat {
	return []*api.Nat{&a.Num.Abs, &a.Den}
}

// ofLine are the slices of l.
func ofLine(l *api.Line) []*api.Nat {
	return []*api.Nat{&l.A.Abs, &l.B.Abs, &l.C.Abs}
}

// ofPoint are the slices of p.
func ofPoint(p *api.Point) []*api.Nat {
	return append(ofRat(&p.X), ofRat(&p.Y)...)
}

// ofFragment are the slices of f.
func ofFragment(f *api.Fragment) []*api.Nat {
	return slices.Concat(ofLine(&f.Line), ofRat(&f.Span.Lo), ofRat(&f.Span.Hi))
}

// digits are the slices of all numbers of a.
func (a *args) digits() []*api.Nat {
	all := slices.Concat(ofFragment(&a.f), ofFragment(&a.g), ofLine(&a.l), ofPoint(&a.p), ofPoint(&a.q))
	for i := range a.points {
		all = append(all, ofPoint(&a.points[i])...)
	}
	for i := range a.list {
		all = append(all, ofFragment(&a.list[i])...)
	}
	return all
}

// widen is a copy of the list with spare capacity, which is filled.
func widen[E any](list []E, filling E) []E {
	return slices.Concat(list, slices.Repeat([]E{filling}, spare))[:len(list)]
}

// roomy is a with spare capacity in all lists and numbers.
func (a args) roomy() args {
	a.points = widen(a.points, at("(5,5)"))
	a.list = widen(a.list, api.Fragment{Line: ln("5", "5", "1"), Span: segment("5", "55")})
	for _, part := range a.digits() {
		*part = widen(*part, 5)
	}
	return a
}

// full has the lists of a with their spare capacity, if a was made by roomy.
func (a args) full() args {
	a.points, a.list = a.points[:len(a.points)+spare], a.list[:len(a.list)+spare]
	return a
}

// intact reports whether b, made by a.roomy(), still is what it was.
func (a args) intact(b args) bool {
	want := a.roomy()
	same := func(x, y *api.Nat) bool { return slices.Equal((*x)[:len(*x)+spare], (*y)[:len(*y)+spare]) }
	return slices.EqualFunc(want.digits(), b.digits(), same) &&
		slices.EqualFunc(want.full().points, b.full().points, samePoint) && slices.EqualFunc(want.full().list, b.full().list, sameFragment)
}

// result is what a function returns.
type result struct {
	fragments [2][]api.Fragment
	point     api.Point
}

// nats are the slices of the numbers of r.
func (r *result) nats() []*api.Nat {
	all := ofPoint(&r.point)
	for _, list := range r.fragments {
		for i := range list {
			all = append(all, ofFragment(&list[i])...)
		}
	}
	return all
}

// is reports whether r and s are the same in all digits.
func (r result) is(s result) bool {
	return samePoint(r.point, s.point) && slices.EqualFunc(r.fragments[0], s.fragments[0], sameFragment) && slices.EqualFunc(r.fragments[1], s.fragments[1], sameFragment)
}

// overwrite changes all digits of a and of its spare capacity.
func overwrite(a api.Nat) {
	a = a[:cap(a)]
	for i := range a {
		a[i] ^= 0xaaaaaaaa
	}
}

// call has the results of one function.
type call struct {
	name string
	run  func(a args) result
}

// ofOne is the result that consists of one fragment.
func ofOne(f api.Fragment) result {
	return result{fragments: [2][]api.Fragment{{f}}}
}

// calls are the functions that return numbers. Their other results are examined by other tests.
func calls() []call {
	return []call{
		{"FromPoints", func(a args) result {
			f, _ := fragment.FromPoints(a.p, a.q)
			return ofOne(f)
		}},
		{"Start", func(a args) result {
			p, _ := fragment.Start(a.f)
			return result{point: p}
		}},
		{"End", func(a args) result {
			p, _ := fragment.End(a.f)
			return result{point: p}
		}},
		{"Reverse", func(a args) result {
			f, _ := fragment.Reverse(a.f)
			return ofOne(f)
		}},
		{"Split", func(a args) result {
			left, right, _ := fragment.Split(a.f, a.l)
			return result{fragments: [2][]api.Fragment{left, right}}
		}},
		{"Cut", func(a args) result {
			list, _ := fragment.Cut(a.f, a.points)
			return result{fragments: [2][]api.Fragment{list}}
		}},
		{"Meet", func(a args) result {
			p, _, _ := fragment.Meet(a.f, a.g)
			return result{point: p}
		}},
		{"Overlap", func(a args) result {
			f, _, _ := fragment.Overlap(a.f, a.g)
			return ofOne(f)
		}},
		{"Join", func(a args) result {
			list, _ := fragment.Join(a.list)
			return result{fragments: [2][]api.Fragment{list}}
		}},
	}
}

// someArgs calls test with arguments of all kinds.
func someArgs(test func(a args)) {
	var list []api.Fragment
	for _, r := range []stretch{{1, 1}, {2, 2}, {1, 4}, {0, 2}, {3, 5}, {0, 5}} {
		for _, l := range []int{0, 1, 5, 6, 8, 10} {
			list = append(list, r.on(lines()[l], grid()))
		}
	}
	list = append(list, invalidFragments()[1:4]...)
	for i, f := range list {
		for k, g := range list {
			l := lines()[k%len(lines())]
			points := []api.Point{pointAt(f.Line, probe(3)), pointAt(f.Line, probe(1)), {X: raw(4, 6), Y: raw(7, 0)}, pointAt(f.Line, probe(1))}
			test(args{f, g, l, at("(1/2,-7)"), pointAt(l, probe(k%gaps)), points, []api.Fragment{g, list[(i+6)%36], f, f, list[(i+12)%36]}})
		}
	}
}

// Rule 2: arguments are not modified, and neither two results, nor two parts of a result, nor a result and an argument share memory.
func TestMemory(t *testing.T) {
	for _, c := range calls() {
		someArgs(func(a args) {
			b := a.roomy()
			first, second, want := c.run(b), c.run(b), c.run(a)
			if !a.intact(b) {
				t.Fatal(c.name, "changes an argument:", a)
			}
			same := func(p, q *api.Nat) bool { return slices.Equal(*p, *q) }
			parts, rest := first.nats(), want.nats()
			for i, part := range parts {
				overwrite(*part)
				if !second.is(want) || !slices.EqualFunc(parts[i+1:], rest[i+1:], same) {
					t.Fatal(c.name, "has results that share memory:", a)
				}
			}
			for _, list := range first.fragments {
				clear(list[:cap(list)])
			}
			if !second.is(want) {
				t.Fatal(c.name, "has results that share memory:", a)
			}
			if !a.intact(b) {
				t.Fatal(c.name, "returns the memory of an argument:", a)
			}
		})
	}
}

// Rule 2: the two lists of Split share no memory either.
func TestSplitMemory(t *testing.T) {
	someArgs(func(a args) {
		want, _, _ := fragment.Split(a.f, a.l)
		left, right, _ := fragment.Split(a.f, a.l)
		clear(right[:cap(right)])
		if !slices.EqualFunc(left, want, sameFragment) {
			t.Fatal(a)
		}
	})
}

// Rule 2: the functions that return no numbers do not modify their arguments either.
func TestReaders(t *testing.T) {
	someArgs(func(a args) {
		b := a.roomy()
		fragment.Valid(b.f)
		fragment.Contains(b.f, b.points[0])
		fragment.Contains(b.f, b.p)
		if !a.intact(b) {
			t.Fatal(a)
		}
	})
}

// Rule 2: two arguments, and the parts of one argument, may have the same memory.
func TestSameArgument(t *testing.T) {
	lo := number("1/3")
	shared := api.Span{Lo: lo, Hi: api.Rat{Num: api.Int{Abs: lo.Den}, Den: lo.Num.Abs}}
	for _, c := range calls() {
		someArgs(func(a args) {
			a.f.Span, a.g, a.l, a.q.X, a.p.Y, a.list[0] = shared, a.f, a.g.Line, a.p.X, a.p.X, a.f
			a.points = []api.Point{{X: lo, Y: lo}, {X: lo, Y: lo}, a.p, a.p}
			if got, want := c.run(a), c.run(a.roomy()); !got.is(want) {
				t.Fatal(c.name, a, got, want)
			}
		})
	}
}
