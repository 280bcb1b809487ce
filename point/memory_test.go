package point_test

import (
	"slices"
	"testing"

	"bspregion/api"
	"bspregion/point"
)

const spare = 10

// numbers are the slices of points.
func numbers(points ...api.Point) []api.Nat {
	var list []api.Nat
	for _, p := range points {
		list = append(list, slices.Concat(digits(p.X), digits(p.Y))...)
	}
	return list
}

// digits are the slices of a number.
func digits(a api.Rat) []api.Nat {
	return []api.Nat{a.Num.Abs, a.Den}
}

// roomy is p with spare capacity, which is filled with fives.
func roomy(p api.Point) api.Point {
	widen := func(a api.Rat) api.Rat {
		for _, part := range []*api.Nat{&a.Num.Abs, &a.Den} {
			*part = slices.Concat(*part, slices.Repeat(api.Nat{5}, spare))[:len(*part)]
		}
		return a
	}
	return api.Point{X: widen(p.X), Y: widen(p.Y)}
}

// intact reports whether q, made by roomy(p), still is what it was.
func intact(p, q api.Point) bool {
	full := func(list []api.Nat) []api.Nat {
		for i, part := range list {
			list[i] = part[:len(part)+spare]
		}
		return list
	}
	return p.X.Num.Neg == q.X.Num.Neg && p.Y.Num.Neg == q.Y.Num.Neg &&
		slices.EqualFunc(full(numbers(roomy(p))), full(numbers(q)), slices.Equal)
}

// overwrite changes all digits of a and of its spare capacity.
func overwrite(a api.Nat) {
	a = a[:cap(a)]
	for i := range a {
		a[i] ^= 0xaaaaaaaa
	}
}

// call has the slices of the results of one function.
type call struct {
	name string
	run  func(p, q api.Point) []api.Nat
}

// calls are the functions that return numbers.
func calls() []call {
	return []call{
		{"Norm", func(p, q api.Point) []api.Nat { return numbers(point.Norm(p)) }},
		{"FromInts", func(p, q api.Point) []api.Nat { return numbers(point.FromInts(7, 7)) }},
		{"Add", func(p, q api.Point) []api.Nat { return numbers(point.Add(p, q)) }},
		{"Sub", func(p, q api.Point) []api.Nat { return numbers(point.Sub(p, q)) }},
		{"Scale", func(p, q api.Point) []api.Nat { return numbers(point.Scale(p.X, q)) }},
		{"Dot", func(p, q api.Point) []api.Nat { return digits(point.Dot(p, q)) }},
		{"Cross", func(p, q api.Point) []api.Nat { return digits(point.Cross(p, q)) }},
		{"Primitive", func(p, q api.Point) []api.Nat { return numbers(point.Primitive(p)) }},
		{"Parse", func(p, q api.Point) []api.Nat {
			r, _ := point.Parse(point.Format(p))
			return numbers(r)
		}},
	}
}

// fewPairs calls test with pairs of samples of all kinds.
func fewPairs(test func(p, q api.Point)) {
	list := samples()
	for i, p := range list {
		for j := i % 11; j < len(list); j += 11 {
			test(p, list[j])
		}
	}
}

// Rule 2: arguments are not modified, and neither two results, nor two parts of a result, nor a result and an argument share memory.
func TestMemory(t *testing.T) {
	for _, c := range calls() {
		fewPairs(func(p, q api.Point) {
			u, v := roomy(p), roomy(q)
			first, second, want := c.run(u, v), c.run(u, v), c.run(p, q)
			if !intact(p, u) || !intact(q, v) {
				t.Fatal(c.name, "changes an argument:", p, q)
			}
			for i := range first {
				overwrite(first[i])
				if !slices.EqualFunc(second, want, slices.Equal) || !slices.EqualFunc(first[i+1:], want[i+1:], slices.Equal) {
					t.Fatal(c.name, "has results that share memory:", p, q)
				}
			}
			if !intact(p, u) || !intact(q, v) {
				t.Fatal(c.name, "returns the memory of an argument:", p, q)
			}
		})
	}
}

// Rule 2: the functions that return no numbers do not modify their arguments either.
func TestReaders(t *testing.T) {
	fewPairs(func(p, q api.Point) {
		u, v := roomy(p), roomy(q)
		point.Normal(u)
		point.Same(u, v)
		point.Orient(u, v, u)
		point.Orient(v, u, at("1", "2"))
		point.Compare(u, v)
		point.Angle(u, v)
		point.Between(u, v, u)
		point.Format(u)
		if !intact(p, u) || !intact(q, v) {
			t.Fatal(p, q)
		}
	})
}

// Rule 2: both arguments, and the coordinates of one argument, may have the same memory.
func TestSameArgument(t *testing.T) {
	for _, c := range calls() {
		for _, p := range samples() {
			both := api.Point{X: p.X, Y: p.X}
			for _, u := range []api.Point{p, both} {
				if got, want := c.run(u, u), c.run(u, roomy(u)); !slices.EqualFunc(got, want, slices.Equal) {
					t.Fatal(c.name, u, got, want)
				}
			}
		}
	}
}
