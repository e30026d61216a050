package straw_test

import (
	"math"
	"testing"

	"paddock/bits"
	"paddock/straw"
)

func TestLog(t *testing.T) {
	for _, c := range []struct {
		u    uint32
		want int
	}{
		{1, 0},
		{2, 65536},
		{3, 103872},
		{4, 131072},
		{5, 152169},
		{6, 169408},
		{7, 183982},
		{9, 207744},
		{10, 217705},
		{100, 435411},
		{255, 523917},
		{256, 524288},
		{257, 524656},
		{1000, 653117},
		{12345, 890741},
		{32767, 983037},
		{32768, 983040},
		{32769, 983042},
		{40000, 1001895},
		{46341, 1015808},
		{65534, 1048573},
		{65535, 1048574},
		{65536, 1048576},
	} {
		if got := straw.Log(c.u); got != c.want {
			t.Errorf("P2.1: Log(%d): %d, not %d", c.u, got, c.want)
		}
	}
}

func TestLogOfPowersOfTwo(t *testing.T) {
	for k := range 17 {
		if got := straw.Log(1 << k); got != k*65536 {
			t.Errorf("P2.1: Log(2^%d): %d, not %d", k, got, k*65536)
		}
	}
}

func TestLogHoldsItsNumber(t *testing.T) {
	if got := straw.Log(0); got != 0 {
		t.Errorf("P2.1: Log(0): %d, not that of 1", got)
	}
	for _, u := range []uint32{65537, 65538, 131071, 131072, 1 << 31, math.MaxUint32} {
		if got := straw.Log(u); got != 1<<20 {
			t.Errorf("P2.1: Log(%d): %d, not that of 65536", u, got)
		}
	}
}

func TestLogOfAllNumbers(t *testing.T) {
	var all []byte
	last := 0
	for u := uint32(1); u <= 65536; u++ {
		got := straw.Log(u)
		if got < last {
			t.Fatalf("P2.1: Log(%d): %d, below %d, that of the number ahead of it", u, got, last)
		}
		if exact := math.Log2(float64(u)) * 65536; float64(got) > exact+1e-6 || float64(got) < exact-2 {
			t.Fatalf("P2.1: Log(%d): %d, not about %f", u, got, exact)
		}
		all = append(all, byte(got>>24), byte(got>>16), byte(got>>8), byte(got))
		last = got
	}
	if sum := bits.Sum(all); sum != 13176047976730780542 {
		t.Errorf("P2.1: the sum of all logarithms: %d", sum)
	}
}
