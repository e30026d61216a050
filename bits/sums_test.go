package bits_test

import (
	"math"
	"testing"

	"paddock/api"
	"paddock/bits"
)

func TestSum(t *testing.T) {
	for _, c := range []struct {
		b    string
		want uint64
	}{
		{"", 14695981039346656037},
		{"\x00", 0xaf63bd4c8601b7df},
		{"\x00\x00", 0x8328807b4eb6fed},
		{"a", 0xaf63dc4c8601ec8c},
		{"ab", 0x89c4407b545986a},
		{"ba", 0x8a63307b54dd00c},
		{"foobar", 0x85944171f73967e8},
		{"\xff\xff\xff", 0xf998341be47bae14},
	} {
		if got := bits.Sum([]byte(c.b)); got != c.want {
			t.Errorf("P1.1: Sum(%q): %#x, not %#x", c.b, got, c.want)
		}
	}
	if got := bits.Sum(nil); got != 14695981039346656037 {
		t.Errorf("P1.1: Sum of nil: %d", got)
	}
}

func TestSumLeavesSpareRoomAlone(t *testing.T) {
	whole := []byte{1, 2, 3, 4}
	first := bits.Sum(whole[:2])
	if whole[2] = 9; bits.Sum(whole[:2]) != first {
		t.Error("P1.1: Sum hangs on the room behind the bytes")
	}
	if string(whole) != "\x01\x02\x09\x04" {
		t.Errorf("Sum changed what was handed in: %v", whole)
	}
}

func TestMix(t *testing.T) {
	for _, c := range []struct{ x, want uint64 }{
		{0, 0},
		{1, 0xb456bcfc34c2cb2c},
		{2, 0x3abf2a20650683e7},
		{1 << 32, 0xba3a9e160a5f1419},
		{1 << 33, 0x6b80f8591e1145c3},
		{1 << 63, 0x8f780810af31a493},
		{0x123456789abcdef, 0x87cbfbfe89022cea},
		{math.MaxUint64, 0x64b5720b4b825f21},
	} {
		if got := bits.Mix(c.x); got != c.want {
			t.Errorf("P1.1: Mix(%#x): %#x, not %#x", c.x, got, c.want)
		}
	}
}

func TestHash(t *testing.T) {
	const most = math.MaxUint32
	for _, c := range []struct{ a, b, c, want uint32 }{
		{0, 0, 0, 0},
		{1, 0, 0, 0x45355d6a},
		{0, 1, 0, 0x8b2b1be2},
		{0, 0, 1, 0x34c2cb2c},
		{1, 2, 3, 0x13e09a99},
		{3, 2, 1, 0x35f4ce07},
		{7, most, 9, 0xa4ee17b2},
		{most, most, most, 0xec9b0db},
	} {
		if got := bits.Hash(c.a, c.b, c.c); got != c.want {
			t.Errorf("P1.1: Hash(%d, %d, %d): %#x, not %#x", c.a, c.b, c.c, got, c.want)
		}
	}
}

func TestGroup(t *testing.T) {
	for obj, want := range []uint8{0, 0, 3, 2, 1, 1, 3, 1, 3, 1, 1, 0, 1, 1, 0, 1} {
		if got := bits.Group(uint8(obj)); got != want {
			t.Errorf("P1.1: Group(%d): %d, not %d", obj, got, want)
		}
	}
	if a, b := bits.Group(254), bits.Group(255); a != 2 || b != 0 {
		t.Errorf("P1.1: groups of 254, 255: %d, %d", a, b)
	}
	for obj := range 256 {
		if got := bits.Group(uint8(obj)); got >= api.Groups {
			t.Errorf("P1.1: Group(%d): %d", obj, got)
		}
	}
}
