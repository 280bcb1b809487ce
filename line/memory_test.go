package line_test

import (
	"slices"
	"testing"

	"bspregion/api"
	"bspregion/line"
)

const spare = 10

// args are arguments for all functions.
type args struct {
	l, m api.Line
	p, q api.Point
}

// digits are the slices of the arguments.
func (a *args) digits() []*api.Nat {
	var list []*api.Nat
	for _, l := range []*api.Line{&a.l, &a.m} {
		list = append(list, &l.A.Abs, &l.B.Abs, &l.C.Abs)
	}
	for _, p := range []*api.Point{&a.p, &a.q} {
		list = append(list, &p.X.Num.Abs, &p.X.Den, &p.Y.Num.Abs, &p.Y.Den)
	}
	return list
}

// roomy is a with spare capacity, which is filled with fives.
func (a args) roomy() args {
	for _, part := range a.digits() {
		*part = slices.Concat(*part, slices.Repeat(api.Nat{5}, spare))[:len(*part)]
	}
	return a
}

// intact reports whether b, made by a.roomy(), still is what it was.
func (a args) intact(b args) bool {
	want := a.roomy()
	full := func(x, y *api.Nat) bool {
		return slices.Equal((*x)[:len(*x)+spare], (*y)[:len(*y)+spare])
	}
	return slices.EqualFunc(want.digits(), b.digits(), full)
}

// overwrite changes all digits of a and of its spare capacity.
func overwrite(a api.Nat) {
	a = a[:cap(a)]
	for i := range a {
		a[i] ^= 0xaaaaaaaa
	}
}

// ofLine are the slices of l.
func ofLine(l api.Line) []api.Nat {
	return []api.Nat{l.A.Abs, l.B.Abs, l.C.Abs}
}

// ofRat are the slices of r.
func ofRat(r api.Rat) []api.Nat {
	return []api.Nat{r.Num.Abs, r.Den}
}

// ofPoint are the slices of p.
func ofPoint(p api.Point) []api.Nat {
	return append(ofRat(p.X), ofRat(p.Y)...)
}

// call has the slices of the results of one function.
type call struct {
	name string
	run  func(a args) []api.Nat
}

// calls are the functions that return numbers.
func calls() []call {
	return []call{
		{"New", func(a args) []api.Nat {
			l, _ := line.New(a.p.X.Num, a.p.Y.Num, a.q.X.Num)
			m, _ := line.New(a.l.A, a.l.B, a.l.C)
			return append(ofLine(l), ofLine(m)...)
		}},
		{"Through", func(a args) []api.Nat {
			l, _ := line.Through(a.p, a.q)
			return ofLine(l)
		}},
		{"Reverse", func(a args) []api.Nat { return ofLine(line.Reverse(a.l)) }},
		{"Value", func(a args) []api.Nat { return ofRat(line.Value(a.l, a.p)) }},
		{"Direction", func(a args) []api.Nat { return ofPoint(line.Direction(a.l)) }},
		{"Base", func(a args) []api.Nat { return ofPoint(line.Base(a.l)) }},
		{"At", func(a args) []api.Nat { return ofPoint(line.At(a.l, a.p.X)) }},
		{"Param", func(a args) []api.Nat { return ofRat(line.Param(a.l, a.p)) }},
		{"Canon", func(a args) []api.Nat {
			l, _ := line.Canon(a.l)
			return ofLine(l)
		}},
		{"Meet", func(a args) []api.Nat {
			p, _ := line.Meet(a.l, a.m)
			return ofPoint(p)
		}},
	}
}

// someArgs calls test with arguments of all kinds.
func someArgs(test func(a args)) {
	lines, places := append(validLines(), invalidLines()...), points()
	for i, l := range lines {
		for j := i % 3; j < len(lines); j += 3 {
			test(args{l, lines[j], places[(5*i+j)%len(places)], places[(i+7*j)%len(places)]})
		}
	}
}

// Rule 2: arguments are not modified, and neither two results, nor two parts of a result, nor a result and an argument share memory.
func TestMemory(t *testing.T) {
	for _, c := range calls() {
		someArgs(func(a args) {
			b := a.roomy()
			first, second, want := c.run(b), c.run(b), c.run(a)
			if !a.intact(b) {
				t.Fatal(c.name, "changes an argument:", a)
			}
			for i := range first {
				overwrite(first[i])
				if !slices.EqualFunc(second, want, slices.Equal) || !slices.EqualFunc(first[i+1:], want[i+1:], slices.Equal) {
					t.Fatal(c.name, "has results that share memory:", a)
				}
			}
			if !a.intact(b) {
				t.Fatal(c.name, "returns the memory of an argument:", a)
			}
		})
	}
}

// Rule 2: the functions that return no numbers do not modify their arguments either.
func TestReaders(t *testing.T) {
	someArgs(func(a args) {
		b := a.roomy()
		line.Valid(b.l)
		line.Side(b.l, b.p)
		line.Same(b.l, b.m)
		line.Opposite(b.l, b.m)
		line.Parallel(b.l, b.m)
		line.Compare(b.l, b.m)
		if !a.intact(b) {
			t.Fatal(a)
		}
	})
}

// Rule 2: two arguments, and the parts of one argument, may have the same memory.
func TestSameArgument(t *testing.T) {
	for _, c := range calls() {
		someArgs(func(a args) {
			a.m, a.q.X, a.p.Y = a.l, a.p.X, a.p.X
			if got, want := c.run(a), c.run(a.roomy()); !slices.EqualFunc(got, want, slices.Equal) {
				t.Fatal(c.name, a, got, want)
			}
		})
	}
}
