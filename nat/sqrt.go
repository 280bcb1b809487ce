package nat

import (
	"math/bits"

	"bspregion/api"
)

// Sqrt returns the greatest number whose square is at most a.
func Sqrt(a api.Nat) api.Nat {
	a = trim(a)
	if len(a) == 0 {
		return nil
	}
	// Newton's method, where each step divides only as many of the highest bits of a as it can use: the root of these is known up to 1 before and after each step.
	last := uint(Bits(a)-1) / 2
	root, known := api.Nat{1}, uint(0)
	for s := bits.Len(last) - 1; s >= 0; s-- {
		next := last >> s
		quotient, _, _ := DivMod(Shr(a, 2*last-known-next+1), root)
		root = Add(shiftLeft(root, next-known-1), quotient)
		known = next
	}
	if Cmp(Mul(root, root), a) > 0 {
		root, _ = Sub(root, api.Nat{1})
	}
	return root
}
