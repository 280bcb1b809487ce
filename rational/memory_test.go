package rational_test

import (
	"slices"
	"testing"

	"bspregion/api"
	"bspregion/rational"
)

const spare = 10

// roomy is a with spare capacity, which is filled with fives.
func roomy(a api.Rat) api.Rat {
	widen := func(digits api.Nat) api.Nat {
		return slices.Concat(digits, slices.Repeat(api.Nat{5}, spare))[:len(digits)]
	}
	return api.Rat{Num: api.Int{Neg: a.Num.Neg, Abs: widen(a.Num.Abs)}, Den: widen(a.Den)}
}

// intact reports whether b, made by roomy(a), still is what it was.
func intact(a, b api.Rat) bool {
	same := func(want, got api.Nat) bool {
		n := len(want)
		return slices.Equal(want, got) && slices.Equal(slices.Repeat(api.Nat{5}, spare), got[n:n+spare])
	}
	return b.Num.Neg == a.Num.Neg && same(a.Num.Abs, b.Num.Abs) && same(a.Den, b.Den)
}

// overwrite changes all digits of a and of its spare capacity.
func overwrite(a api.Nat) {
	a = a[:cap(a)]
	for i := range a {
		a[i] ^= 0xaaaaaaaa
	}
}

// call has the slices of the results of one function.
type call struct {
	name string
	run  func(a, b api.Rat) []api.Nat
}

// parts are the slices of the results.
func parts(list ...api.Rat) []api.Nat {
	var all []api.Nat
	for _, a := range list {
		all = append(all, a.Num.Abs, a.Den)
	}
	return all
}

// calls are the functions that return numbers.
func calls() []call {
	return []call{
		{"Norm", func(a, b api.Rat) []api.Nat { return parts(rational.Norm(a)) }},
		{"New", func(a, b api.Rat) []api.Nat {
			first, _ := rational.New(a.Num, b.Num)
			second, _ := rational.New(a.Num, api.Int{})
			return parts(first, second)
		}},
		{"FromInt", func(a, b api.Rat) []api.Nat { return parts(rational.FromInt(int64(len(a.Den)))) }},
		{"Neg", func(a, b api.Rat) []api.Nat { return parts(rational.Neg(a)) }},
		{"Add", func(a, b api.Rat) []api.Nat { return parts(rational.Add(a, b)) }},
		{"Sub", func(a, b api.Rat) []api.Nat { return parts(rational.Sub(a, b)) }},
		{"Mul", func(a, b api.Rat) []api.Nat { return parts(rational.Mul(a, b)) }},
		{"Div", func(a, b api.Rat) []api.Nat {
			quotient, _ := rational.Div(a, b)
			return parts(quotient)
		}},
		{"Middle", func(a, b api.Rat) []api.Nat { return parts(rational.Middle(a, b)) }},
		{"Floor", func(a, b api.Rat) []api.Nat { return []api.Nat{rational.Floor(a).Abs} }},
		{"Ceil", func(a, b api.Rat) []api.Nat { return []api.Nat{rational.Ceil(a).Abs} }},
		{"Parse", func(a, b api.Rat) []api.Nat {
			n, _ := rational.Parse(rational.Format(a))
			return parts(n)
		}},
	}
}

// fewPairs calls test with pairs of samples of all kinds.
func fewPairs(test func(a, b api.Rat)) {
	list := samples()
	for i, a := range list {
		for j := i % 7; j < len(list); j += 7 {
			test(a, list[j])
		}
	}
}

// Rule 2: arguments are not modified, and neither two results, nor two parts of a result, nor a result and an argument share memory.
func TestMemory(t *testing.T) {
	for _, c := range calls() {
		fewPairs(func(a, b api.Rat) {
			x, y := roomy(a), roomy(b)
			first, second, want := c.run(x, y), c.run(x, y), c.run(a, b)
			if !intact(a, x) || !intact(b, y) {
				t.Fatal(c.name, "changes an argument:", a, b)
			}
			for i := range first {
				overwrite(first[i])
				if !slices.EqualFunc(second, want, slices.Equal) || !slices.EqualFunc(first[i+1:], want[i+1:], slices.Equal) {
					t.Fatal(c.name, "has results that share memory:", a, b)
				}
			}
			if !intact(a, x) || !intact(b, y) {
				t.Fatal(c.name, "returns the memory of an argument:", a, b)
			}
		})
	}
}

// Rule 2: the functions that return no numbers do not modify their arguments either.
func TestReaders(t *testing.T) {
	fewPairs(func(a, b api.Rat) {
		x, y := roomy(a), roomy(b)
		rational.Normal(x)
		rational.Sign(x)
		rational.Cmp(x, y)
		rational.Format(x)
		if !intact(a, x) || !intact(b, y) {
			t.Fatal(a, b)
		}
	})
}

// Rule 2: both arguments, and the parts of one argument, may have the same memory.
func TestSameArgument(t *testing.T) {
	for _, c := range calls() {
		for _, a := range samples() {
			both := api.Rat{Num: api.Int{Neg: a.Num.Neg, Abs: a.Den}, Den: a.Den}
			for _, x := range []api.Rat{a, both} {
				if got, want := c.run(x, x), c.run(x, roomy(x)); !slices.EqualFunc(got, want, slices.Equal) {
					t.Fatal(c.name, x, got, want)
				}
			}
		}
	}
}
