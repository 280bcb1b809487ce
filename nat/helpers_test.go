package nat_test

import (
	"encoding/binary"
	"math/big"
	"testing"

	"bspregion/api"
	"bspregion/nat"
)

// toBig converts a without the package that is tested.
func toBig(a api.Nat) *big.Int {
	var bytes []byte
	for i := len(a) - 1; i >= 0; i-- {
		bytes = binary.BigEndian.AppendUint32(bytes, a[i])
	}
	return new(big.Int).SetBytes(bytes)
}

// fromBig converts n to its normal form.
func fromBig(n *big.Int) api.Nat {
	bytes := n.Bytes()
	bytes = append(make([]byte, (4-len(bytes)%4)%4), bytes...)
	var a api.Nat
	for end := len(bytes); end > 0; end -= 4 {
		a = append(a, binary.BigEndian.Uint32(bytes[end-4:]))
	}
	return a
}

// check compares got with the number want, and demands the normal form.
func check(t *testing.T, name string, got api.Nat, want *big.Int) {
	t.Helper()
	if len(got) > 0 && got[len(got)-1] == 0 {
		t.Fatalf("%s: %v is not in normal form", name, got)
	}
	if toBig(got).Cmp(want) != 0 {
		t.Fatalf("%s: %v, not %v", name, toBig(got), want)
	}
}

// sequence yields the same digits in every run.
type sequence uint64

func (s *sequence) next() uint32 {
	*s = *s*6364136223846793005 + 1442695040888963407
	return uint32(*s >> 32)
}

// number has n digits, many of which are next to a border of their range.
func (s *sequence) number(n int) api.Nat {
	borders := []uint32{0, 1, 2, 0x7fffffff, 0x80000000, 0x80000001, 0xfffffffe, 0xffffffff}
	a := make(api.Nat, n)
	for i := range a {
		if s.next()%2 == 0 {
			a[i] = borders[s.next()%8]
		} else {
			a[i] = s.next() >> (s.next() % 32)
		}
	}
	return a
}

// samples are numbers of different lengths, some with zeros at the end.
func samples() []api.Nat {
	list := []api.Nat{nil, {}, {0}, {0, 0, 0}, {1}, {1, 0}, {2}, {3}, {0xffffffff}, {0, 1}, {0xffffffff, 0xffffffff}, {0, 0, 1}, {0xffffffff, 0xffffffff, 0xffffffff, 0, 0}}
	seq := sequence(1)
	for n := range 12 {
		for range 4 {
			list = append(list, seq.number(n+1))
		}
	}
	return append(list, seq.number(40), seq.number(41), seq.number(100))
}

// pairs calls test with all pairs of samples.
func pairs(test func(a, b api.Nat)) {
	for _, a := range samples() {
		for _, b := range samples() {
			test(a, b)
		}
	}
}

// parse is the number with these digits, read by math/big.
func parse(t *testing.T, s string) *big.Int {
	t.Helper()
	n, ok := new(big.Int).SetString(s, 10)
	if !ok {
		t.Fatal("not a number:", s)
	}
	return n
}

func TestHelpers(t *testing.T) {
	for _, a := range samples() {
		if nat.Cmp(fromBig(toBig(a)), a) != 0 {
			t.Error(a)
		}
	}
}
