package convex_test

import (
	"slices"
	"testing"

	"bspregion/api"
	"bspregion/convex"
	"bspregion/line"
)

const spare = 10

// args are arguments for all functions.
type args struct {
	c api.Cell
	l api.Line
	p api.Point
}

// ofRat are the slices of a.
func ofRat(a *api.Rat) []*api.Nat {
	return []*api.Nat{&a.Num.Abs, &a.Den}
}

// ofPoint are the slices of p.
func ofPoint(p *api.Point) []*api.Nat {
	return append(ofRat(&p.X), ofRat(&p.Y)...)
}

// ofLine are the slices of l.
func ofLine(l *api.Line) []*api.Nat {
	return []*api.Nat{&l.A.Abs, &l.B.Abs, &l.C.Abs}
}

// ofCell are the slices of the sides of c.
func ofCell(c *api.Cell) []*api.Nat {
	var all []*api.Nat
	for i := range c.Sides {
		all = append(all, ofLine(&c.Sides[i])...)
	}
	return all
}

// digits are the slices of all numbers of a.
func (a *args) digits() []*api.Nat {
	return slices.Concat(ofCell(&a.c), ofLine(&a.l), ofPoint(&a.p))
}

// widen is a copy of the list with spare capacity, which is filled.
func widen[E any](list []E, filling E) []E {
	return slices.Concat(list, slices.Repeat([]E{filling}, spare))[:len(list)]
}

// roomy is a with spare capacity in all lists and numbers.
func (a args) roomy() args {
	a.c.Sides = widen(a.c.Sides, ln("5", "5", "1"))
	for _, part := range a.digits() {
		*part = widen(*part, 5)
	}
	return a
}

// full has the sides of a with their spare capacity, if a was made by roomy.
func (a args) full() api.Cell {
	return cell(a.c.Sides[:len(a.c.Sides)+spare]...)
}

// intact reports whether b, made by a.roomy(), still is what it was.
func (a args) intact(b args) bool {
	want := a.roomy()
	same := func(x, y *api.Nat) bool { return slices.Equal((*x)[:len(*x)+spare], (*y)[:len(*y)+spare]) }
	return slices.EqualFunc(want.digits(), b.digits(), same) && sameCell(want.full(), b.full())
}

// result is what a function returns.
type result struct {
	c      api.Cell
	points []api.Point
	area   api.Rat
}

// nats are the slices of the numbers of r.
func (r *result) nats() []*api.Nat {
	all := append(ofCell(&r.c), ofRat(&r.area)...)
	for i := range r.points {
		all = append(all, ofPoint(&r.points[i])...)
	}
	return all
}

// is reports whether r and s are the same in all digits.
func (r result) is(s result) bool {
	return sameCell(r.c, s.c) && slices.EqualFunc(r.points, s.points, samePoint) && sameRat(r.area, s.area)
}

// overwrite changes all digits of a and of its spare capacity.
func overwrite(a api.Nat) {
	a = a[:cap(a)]
	for i := range a {
		a[i] ^= 0xaaaaaaaa
	}
}

// call has the results of one function.
type call struct {
	name string
	run  func(a args) result
}

// calls are the functions that return numbers. Their errors are examined by other tests.
func calls() []call {
	return []call{
		{"Canon", func(a args) result {
			c, _ := convex.Canon(a.c)
			return result{c: c}
		}},
		{"Clip", func(a args) result {
			c, _ := convex.Clip(a.c, a.l)
			return result{c: c}
		}},
		{"Vertices", func(a args) result {
			list, _ := convex.Vertices(a.c)
			return result{points: list}
		}},
		{"Area", func(a args) result {
			area, _ := convex.Area(a.c)
			return result{area: area}
		}},
		{"Inner", func(a args) result {
			p, _ := convex.Inner(a.c)
			return result{points: []api.Point{p}}
		}},
	}
}

// someArgs calls test with arguments of all kinds.
func someArgs(test func(a args)) {
	cells := append(emptyCells(), invalidCells()[:5]...)
	cells = append(cells, api.Cell{}, cell(ln("0", "1", "0")), cell(ln("0", "1", "0"), ln("0", "-1", "2")))
	for _, l := range many()[970:1050] {
		cells = append(cells, l.cell())
		if !l.empty() {
			cells = append(cells, l.canon().cell())
		}
	}
	for _, c := range cells {
		if len(c.Sides) > 20 {
			continue
		}
		test(args{c, ln(far, "1", "-1"), api.Point{X: raw(4, 6), Y: raw(7, 0)}})
		for _, l := range c.Sides {
			test(args{c, l, line.Base(l)})
			test(args{c, line.Reverse(l), line.Base(l)})
		}
	}
}

// Rule 2: arguments are not modified, and neither two results, nor two parts of a result, nor a result and an argument share memory.
func TestMemory(t *testing.T) {
	for _, c := range calls() {
		someArgs(func(a args) {
			b := a.roomy()
			first, second, want := c.run(b), c.run(b), c.run(a)
			if !a.intact(b) {
				t.Fatal(c.name, "changes an argument:", a)
			}
			same := func(p, q *api.Nat) bool { return slices.Equal(*p, *q) }
			parts, rest := first.nats(), want.nats()
			for i, part := range parts {
				overwrite(*part)
				if !slices.EqualFunc(parts[i+1:], rest[i+1:], same) {
					t.Fatal(c.name, "has results that share memory:", a)
				}
			}
			clear(first.c.Sides[:cap(first.c.Sides)])
			clear(first.points[:cap(first.points)])
			if !second.is(want) {
				t.Fatal(c.name, "has results that share memory:", a)
			}
			if !a.intact(b) {
				t.Fatal(c.name, "returns the memory of an argument:", a)
			}
		})
	}
}

// Rule 2: the functions that return no numbers do not modify their arguments either.
func TestReaders(t *testing.T) {
	someArgs(func(a args) {
		b := a.roomy()
		convex.Valid(b.c)
		convex.Empty(b.c)
		convex.Place(b.c, b.l)
		convex.Class(b.c, b.p)
		convex.Bounded(b.c)
		if !a.intact(b) {
			t.Fatal(a)
		}
	})
}

// Rule 2: the sides and the line may have the same memory, and an empty list is as good as nil.
func TestSameArgument(t *testing.T) {
	for _, c := range calls() {
		someArgs(func(a args) {
			if got, want := c.run(a), c.run(a.roomy()); !got.is(want) {
				t.Fatal(c.name, a)
			}
		})
		none := args{c: cell([]api.Line{}...), l: ln("1", "0", "0")}
		if got, want := c.run(none), c.run(args{l: none.l}); !got.is(want) {
			t.Fatal(c.name)
		}
	}
}
