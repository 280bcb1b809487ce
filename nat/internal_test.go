package nat

import (
	"testing"

	"bspregion/api"
)

// P1.4: Sqrt shifts intermediate values of very long numbers further than Shl does.
func TestShiftLeftFar(t *testing.T) {
	a := shiftLeft(api.Nat{5}, 2*maxShift+1)
	if Bits(a) != 2*maxShift+4 || Cmp(Shr(a, 2*maxShift+1), api.Nat{5}) != 0 {
		t.Error(Bits(a))
	}
}

// P1.4: the steps of Euclid's algorithm that are taken at once have factors that difference can multiply by.
func TestEuclidFactors(t *testing.T) {
	for _, c := range []struct{ x, y uint64 }{
		{1 << 63, 1},
		{1 << 63, 0},
		{1<<64 - 1, 1<<64 - 1},
		{1<<64 - 1, 1<<64 - 2},
		{12200160415121876738, 7540113804746346429},
		{1<<64 - 1, 1 << 33},
		{1<<64 - 1, 1<<32 + 1},
		{1<<63 + 12345, 1<<32 - 1},
	} {
		f := euclid(c.x, c.y)
		if max(f.u0, f.v0, f.u1, f.v1) >= base {
			t.Error(c, f)
		}
		if f.v0 == 0 {
			continue
		}
		if f.even && (f.u0*c.x-f.v0*c.y > c.y || f.v1*c.y-f.u1*c.x > c.y) || !f.even && (f.v0*c.y-f.u0*c.x > c.y || f.u1*c.x-f.v1*c.y > c.y) {
			t.Error(c, f)
		}
	}
}
