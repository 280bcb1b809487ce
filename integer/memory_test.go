package integer_test

import (
	"slices"
	"testing"

	"bspregion/api"
	"bspregion/integer"
)

const spare = 10

// roomy is a with spare capacity, which is filled with fives.
func roomy(a api.Int) api.Int {
	wide := slices.Concat(a.Abs, slices.Repeat(api.Nat{5}, spare))
	return api.Int{Neg: a.Neg, Abs: wide[:len(a.Abs)]}
}

// intact reports whether b, made by roomy(a), still is what it was.
func intact(a, b api.Int) bool {
	want, n := roomy(a), len(a.Abs)+spare
	return b.Neg == a.Neg && slices.Equal(want.Abs[:n], b.Abs[:n])
}

// overwrite changes all digits of a and of its spare capacity.
func overwrite(a api.Nat) {
	a = a[:cap(a)]
	for i := range a {
		a[i] ^= 0xaaaaaaaa
	}
}

// call has the absolute values of the results of one function.
type call struct {
	name string
	run  func(a, b api.Int) []api.Nat
}

// calls are the functions that return numbers.
func calls() []call {
	return []call{
		{"Norm", func(a, b api.Int) []api.Nat { return []api.Nat{integer.Norm(a).Abs} }},
		{"FromInt", func(a, b api.Int) []api.Nat { return []api.Nat{integer.FromInt(int64(len(a.Abs))).Abs} }},
		{"Neg", func(a, b api.Int) []api.Nat { return []api.Nat{integer.Neg(a).Abs} }},
		{"Abs", func(a, b api.Int) []api.Nat { return []api.Nat{integer.Abs(a)} }},
		{"Add", func(a, b api.Int) []api.Nat { return []api.Nat{integer.Add(a, b).Abs} }},
		{"Sub", func(a, b api.Int) []api.Nat { return []api.Nat{integer.Sub(a, b).Abs} }},
		{"Mul", func(a, b api.Int) []api.Nat { return []api.Nat{integer.Mul(a, b).Abs} }},
		{"DivMod", func(a, b api.Int) []api.Nat {
			q, r, _ := integer.DivMod(a, b)
			return []api.Nat{q.Abs, r.Abs}
		}},
		{"Gcd", func(a, b api.Int) []api.Nat { return []api.Nat{integer.Gcd(a, b)} }},
		{"Parse", func(a, b api.Int) []api.Nat {
			n, _ := integer.Parse(integer.Format(a))
			return []api.Nat{n.Abs}
		}},
	}
}

// Rule 2: arguments are not modified, and neither two results nor a result and an argument share memory.
func TestMemory(t *testing.T) {
	for _, c := range calls() {
		pairs(func(a, b api.Int) {
			x, y := roomy(a), roomy(b)
			first, second, want := c.run(x, y), c.run(x, y), c.run(a, b)
			if !intact(a, x) || !intact(b, y) {
				t.Fatal(c.name, "changes an argument:", a, b)
			}
			for i := range first {
				overwrite(first[i])
				if !slices.EqualFunc(second, want, slices.Equal) || !slices.EqualFunc(first[i+1:], want[i+1:], slices.Equal) {
					t.Fatal(c.name, "has results that share memory:", a, b)
				}
			}
			if !intact(a, x) || !intact(b, y) {
				t.Fatal(c.name, "returns the memory of an argument:", a, b)
			}
		})
	}
}

// Rule 2: the functions that return no numbers do not modify their arguments either.
func TestReaders(t *testing.T) {
	pairs(func(a, b api.Int) {
		x, y := roomy(a), roomy(b)
		integer.Normal(x)
		integer.Int64(x)
		integer.Sign(x)
		integer.Cmp(x, y)
		integer.Format(x)
		if !intact(a, x) || !intact(b, y) {
			t.Fatal(a, b)
		}
	})
}

// Rule 2: both arguments may have the same memory.
func TestSameArgument(t *testing.T) {
	for _, c := range calls() {
		for _, a := range samples() {
			other := roomy(a)
			if got, want := c.run(a, a), c.run(a, other); !slices.EqualFunc(got, want, slices.Equal) {
				t.Fatal(c.name, a, got, want)
			}
		}
	}
}
