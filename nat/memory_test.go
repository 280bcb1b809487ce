package nat_test

import (
	"testing"

	"bspregion/api"
	"bspregion/nat"
)

// roomy is a with spare capacity, which is filled with fives.
func roomy(a api.Nat) api.Nat {
	wide := make(api.Nat, len(a)+20)
	for i := range wide {
		wide[i] = 5
	}
	copy(wide, a)
	return wide[:len(a)]
}

// overwrite changes all digits of a and of its spare capacity.
func overwrite(a api.Nat) {
	a = a[:cap(a)]
	for i := range a {
		a[i] ^= 0xaaaaaaaa
	}
}

// intact reports whether roomy(a) still is b, with its spare capacity.
func intact(a, b api.Nat) bool {
	want := roomy(a)
	want, b = want[:cap(want)], b[:cap(b)]
	if len(b) != len(want) {
		return false
	}
	for i := range b {
		if b[i] != want[i] {
			return false
		}
	}
	return true
}

// equal reports whether a and b have the same digits.
func equal(a, b api.Nat) bool {
	if len(a) != len(b) {
		return false
	}
	for i := range a {
		if a[i] != b[i] {
			return false
		}
	}
	return true
}

// call has the results of one function.
type call struct {
	name string
	run  func(a, b api.Nat) []api.Nat
}

// calls are the functions that return numbers.
func calls() []call {
	one := func(f func(a, b api.Nat) api.Nat) func(a, b api.Nat) []api.Nat {
		return func(a, b api.Nat) []api.Nat { return []api.Nat{f(a, b)} }
	}
	return []call{
		{"Norm", one(func(a, b api.Nat) api.Nat { return nat.Norm(a) })},
		{"FromUint", one(func(a, b api.Nat) api.Nat { return nat.FromUint(uint64(len(a))) })},
		{"Add", one(nat.Add)},
		{"Sub", one(func(a, b api.Nat) api.Nat { c, _ := nat.Sub(a, b); return c })},
		{"Mul", one(nat.Mul)},
		{"DivMod", func(a, b api.Nat) []api.Nat { q, r, _ := nat.DivMod(a, b); return []api.Nat{q, r} }},
		{"Shl by 0", one(func(a, b api.Nat) api.Nat { return nat.Shl(a, 0) })},
		{"Shl", one(func(a, b api.Nat) api.Nat { return nat.Shl(a, 32) })},
		{"Shr by 0", one(func(a, b api.Nat) api.Nat { return nat.Shr(a, 0) })},
		{"Shr", one(func(a, b api.Nat) api.Nat { return nat.Shr(a, 32) })},
		{"Gcd", one(nat.Gcd)},
		{"Sqrt", one(func(a, b api.Nat) api.Nat { return nat.Sqrt(a) })},
	}
}

// Rule 2: arguments are not modified, and neither two results nor a result and an argument share memory.
func TestMemory(t *testing.T) {
	for _, c := range calls() {
		pairs(func(a, b api.Nat) {
			x, y := roomy(a), roomy(b)
			first, second, want := c.run(x, y), c.run(x, y), c.run(a, b)
			if !intact(a, x) || !intact(b, y) {
				t.Fatal(c.name, "changes an argument:", a, b)
			}
			for i := range first {
				overwrite(first[i])
				for j := range want {
					if !equal(second[j], want[j]) || j > i && !equal(first[j], want[j]) {
						t.Fatal(c.name, "has results that share memory:", a, b)
					}
				}
			}
			if !intact(a, x) || !intact(b, y) {
				t.Fatal(c.name, "returns the memory of an argument:", a, b)
			}
		})
	}
}

// Rule 2: the functions that return no numbers do not modify their arguments either.
func TestReaders(t *testing.T) {
	pairs(func(a, b api.Nat) {
		x, y := roomy(a), roomy(b)
		nat.Normal(x)
		nat.Uint(x)
		nat.Cmp(x, y)
		nat.Bits(x)
		nat.Format(x)
		if !intact(a, x) || !intact(b, y) {
			t.Fatal(a, b)
		}
	})
}

// Rule 2: both arguments may be the same slice.
func TestSameArgument(t *testing.T) {
	for _, c := range calls() {
		for _, a := range samples() {
			shared := roomy(a)
			got, want := c.run(shared, shared), c.run(a, append(api.Nat(nil), a...))
			for i := range got {
				if !equal(got[i], want[i]) {
					t.Fatal(c.name, a, got[i], want[i])
				}
			}
		}
	}
}
